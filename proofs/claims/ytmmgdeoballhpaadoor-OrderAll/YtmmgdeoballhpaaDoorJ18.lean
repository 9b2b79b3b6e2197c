/- The reference's free. -/
import Derived.Test.YtmmgdeoballhpaaDoorJ13
import Derived.Test.YtmmgdeoballhpaaDoorJ17
import Derived.Test.YtmmgdeoballhpaaDoorJ15
namespace Go.Proofs.YtmmgdeoballhpaaDoor
open Go.RowKit Go.Shelf Sx

def freeF (n : Nat) (F : Nat → Nat → Bool) (D : List Bool) (p : Nat) : Bool := !(D.getD p false) && (List.range n).all (fun a => !(F a p && !(D.getD a false)))
theorem arrB_cell {w : World} {g : Nat} {D : List Bool} (h : Blk w g 4 (arrB D)) {i : Nat} (hi : i < D.length) : w.cell? ⟨g, i, none⟩ = some (.bool (D.getD i false)) := h.cell (by simp [arrB, List.getD, hi])
set_option maxRecDepth 100000 in
set_option maxHeartbeats 2000000 in
theorem r2free_calls (lo n : Nat) (hn : n ≤ 256) (x : Option Addr) (y z : Nat) (rb : Nat → Nat) (F : Nat → Nat → Bool) (D : List Bool) (g p : Nat) (w : World) (h : RefM lo w (.slice x y z) n n rb F) (hD : Blk w g 4 (arrB D)) (hDn : D.length = n) (hp : p < n) :
    Calls Tryd.prog 53 #[.agg #[.int .i64 ((n : Nat) : Int), .slice x y z], .slice (some ⟨g, 0, none⟩) n n, .int .i64 p] w fun e w' => e = .returned (.bool (freeF n F D p)) ∧ Below w.heap.size w w' := by
  have d0 := cellA' (arrB_cell hD (i := p) (by omega)) (.cells #[.int .i64 ((n : Nat) : Int), .slice x y z] 46)
  have p0 : (0 : Int) ≤ (p : Int) := by omega
  have p1 : (p : Int) < (n : Int) := by omega
  have hb := Blk.new w 46 #[.int .i64 ((n : Nat) : Int), .slice x y z]
  have hBA := (Below.refl w.heap.size w).alloc (Nat.le_refl _) (.cells #[.int .i64 ((n : Nat) : Int), .slice x y z] 46)
  have HB0 := hid_of hb
  cases hd : D.getD p false
  · rw [hd] at d0
    have er : freeF n F D p = (List.range n).all (fun a => !(F a p && !(D.getD a false))) := by unfold freeF; rw [hd]; rfl
    rw [er]
    generalize hr : (List.range n).all (fun a => !(F a p && !(D.getD a false))) = r
    have HR := hid_of hr
    clear er hr hd
    go_enter Tryd.func53, Tryd.ntmps53
    go_wp2_with fail
    go_loopw [7] (fun i wr => ∃ a : Nat, a ≤ n ∧ i = .int .i64 a ∧ Hid (∀ j, j < a → (F j p && !(D.getD j false)) = false) ∧ Below (w.heap.size + 1) (w.alloc (.cells #[.int .i64 ((n : Nat) : Int), .slice x y z] 46)) wr) (fun i _ => n - (intOf i).toNat)
    case atStart => exact ⟨0, by omega, rfl, fun j hj => by omega, Below.refl _ _⟩
    case round =>
      obtain ⟨a, ha, rfl, HC, hBl⟩ := hrel
      have hbr := HB0.out.below hBl (by omega)
      have b0 := hbr.cell (j := 0) rfl
      have b1 := hbr.cell (j := 1) rfl
      have hBw : Below w.heap.size w wr := hBA.trans (hBl.mono (by omega))
      by_cases hlt : a < n
      · obtain ⟨gm, cap, hM, _, _, _, m1, m2, _, _⟩ := (h.below hBw).at_ hlt hp
        injection hM with hM1 hM2 hM3
        have e2 := hM2.symm
        have e3 := hM3.symm
        subst hM1; subst e2; subst e3
        have d1 := arrB_cell (hD.of_below hBw) (i := a) (by omega)
        have a0 : (0 : Int) ≤ (a : Int) := by omega
        have a1 : (a : Int) < (n : Int) := by omega
        cases hF : F a p
        · rw [hF] at m2
          go_wp2_with fail
          refine ⟨⟨a + 1, by omega, by go_num, ?_, hBl⟩, by simp [intOf]; omega⟩
          intro j hj
          by_cases e : j = a
          · subst e; rw [hF]; rfl
          · exact HC.out j (by omega)
        · rw [hF] at m2
          cases hDa : D.getD a false
          · rw [hDa] at d1
            have er : r = false := by
              rw [← HR.out, List.all_eq_false]
              exact ⟨a, by simpa using hlt, by rw [hF, hDa]; decide⟩
            subst er
            go_wp2_with fail
            go_ret
            exact ⟨rfl, hBw⟩
          · rw [hDa] at d1
            go_wp2_with fail
            refine ⟨⟨a + 1, by omega, by go_num, ?_, hBl⟩, by simp [intOf]; omega⟩
            intro j hj
            by_cases e : j = a
            · subst e; rw [hF, hDa]; rfl
            · exact HC.out j (by omega)
      · obtain rfl : a = n := by omega
        have er : r = true := by
          rw [← HR.out, List.all_eq_true]
          intro j hj
          rw [HC.out j (by simpa using hj)]
          rfl
        subst er
        go_wp2_with fail
        go_ret
        exact ⟨rfl, hBw⟩
  · rw [hd] at d0
    have er : freeF n F D p = false := by unfold freeF; rw [hd]; rfl
    rw [er]
    clear er hd
    go_enter Tryd.func53, Tryd.ntmps53
    go_wp2_with fail
    go_ret
    exact ⟨rfl, hBA⟩
end Go.Proofs.YtmmgdeoballhpaaDoor
/- The document's Linear and Sort, told over a table, are the program's, told over rows. -/
namespace Go.Proofs.YtmmgdeoballhpaaDoor
open Go.RowKit Go.Shelf Sx

/-- A table and rows with the same pairs. -/
structure TwO (n : Nat) (F : Nat → Nat → Bool) (L : List Nat) : Prop where
  len : L.length = n
  same : ∀ p q, p < n → q < n → F p q = (gr L p).testBit q
theorem gr_set' {L : List Nat} {i p v : Nat} (hi : i < L.length) : gr (L.set i v) p = if p = i then v else gr L p := by
  unfold gr
  rw [List.getD_eq_getElem?_getD, List.getD_eq_getElem?_getD, List.getElem?_set]
  by_cases e : i = p
  · subst e; simp [hi]
  · rw [if_neg e, if_neg (fun h => e h.symm)]
theorem twO_put {n : Nat} {F : Nat → Nat → Bool} {A : List Nat} (ha : TwO n F A) (a b : Int) (v : Bool) : TwO n (putF n F a b v) (putP A a b v) := by
  unfold putF putP
  rw [ha.len]
  by_cases h : (inR n a && inR n b) = true
  · rw [if_pos h, if_pos h]
    rw [Bool.and_eq_true] at h
    obtain ⟨i, rfl, hi⟩ := inR_true h.1
    obtain ⟨j, rfl, hj⟩ := inR_true h.2
    rw [Int.toNat_natCast, Int.toNat_natCast]
    have hl := ha.len
    refine ⟨by rw [List.length_set, hl], fun p q hp hq => ?_⟩
    unfold upd
    rw [gr_set' (by omega)]
    by_cases e : p = i
    · subst e
      rw [if_pos rfl, testBit_setB]
      by_cases e2 : q = j
      · subst e2; simp
      · rw [if_neg (fun h => e2 h.2), if_neg e2]
        exact ha.same p q hp hq
    · rw [if_neg e, if_neg (fun h => e h.1)]
      exact ha.same p q hp hq
  · rw [if_neg h, if_neg h]
    exact ha
theorem twO_of (n : Int) (l : List (Int × Int)) : TwO (clampN n) (ofFn (clampN n) l) (ofL n l) := by
  have key : ∀ (l : List (Int × Int)) (F : Nat → Nat → Bool) (A : List Nat), TwO (clampN n) F A → TwO (clampN n) (l.foldl (fun F x => putF (clampN n) F x.1 x.2 true) F) (l.foldl (fun A x => putP A x.1 x.2 true) A) := by
    intro l
    induction l with
    | nil => exact fun F A h => h
    | cons x l ih => exact fun F A h => ih _ _ (twO_put h x.1 x.2 true)
  refine key l _ _ ⟨by simp, fun p q hp hq => ?_⟩
  rw [gr_eq (R := 0) (by simp [hp]), Nat.zero_testBit]
theorem mem_pairsL {L : List Nat} (hn : L.length ≤ 256) (hlow : ∀ R ∈ L, R < 2 ^ L.length) {p q : Nat} : (p, q) ∈ pairsL L ↔ p < L.length ∧ (gr L p).testBit q = true := by
  rw [show pairsL L = pairsK L L.length from rfl, mem_pairsK]
  constructor
  · rintro ⟨h1, h2⟩
    exact ⟨h1, (mem_bitsN.1 h2).2⟩
  · rintro ⟨h1, h2⟩
    refine ⟨h1, mem_bitsN.2 ⟨?_, h2⟩⟩
    apply Nat.lt_of_not_le
    intro hle
    rw [testBit_of_lt (gr_lt hlow) (show L.length ≤ q by have : 256 ≤ q := hle; omega)] at h2
    cases h2
theorem TwO.pairs {F : Nat → Nat → Bool} {L : List Nat} (h : TwO L.length F L) (hn : L.length ≤ 256) (hlow : ∀ R ∈ L, R < 2 ^ L.length) {p q : Nat} (hp : p < L.length) (hq : q < L.length) : F p q = true ↔ (p, q) ∈ pairsL L := by
  rw [mem_pairsL hn hlow, h.same p q hp hq]
  exact ⟨fun h => ⟨hp, h⟩, fun h => h.2⟩

def rowR (n : Nat) (F : Nat → Nat → Bool) (pl : List Int) (a : Nat) : Bool := (List.range n).all (fun b => !(F a b && decide (pl.getD b 0 ≤ pl.getD a 0)))
def allR (n : Nat) (F : Nat → Nat → Bool) (pl : List Int) : Bool := (List.range n).all (fun a => rowR n F pl a)
def linR (n : Nat) (F : Nat → Nat → Bool) (l : List Int) : Bool := l.length == n && match putsF n l 0 (List.replicate n 0) with | none => false | some pl => allR n F pl
theorem allR_iff {n : Nat} {F : Nat → Nat → Bool} {pl : List Int} : allR n F pl = true ↔ ∀ a b, a < n → b < n → F a b = true → ¬ pl.getD b 0 ≤ pl.getD a 0 := by
  unfold allR rowR
  simp only [List.all_eq_true, List.mem_range, Bool.not_eq_true', Bool.and_eq_false_iff, decide_eq_false_iff_not]
  constructor
  · intro h a b ha hb hF
    rcases h a ha b hb with e | e
    · rw [hF] at e; cases e
    · exact e
  · intro h a ha b hb
    cases hF : F a b
    · exact .inl rfl
    · exact .inr (h a b ha hb hF)
theorem linR_eq {F : Nat → Nat → Bool} {L : List Nat} (h : TwO L.length F L) (hn : L.length ≤ 256) (hlow : ∀ R ∈ L, R < 2 ^ L.length) (l : List Int) : linR L.length F l = linB L l := by
  unfold linR linB
  congr 1
  cases putsF L.length l 0 (List.replicate L.length 0) with
  | none => rfl
  | some pl =>
    show allR L.length F pl = !anyT pl (pairsL L)
    rw [Bool.eq_iff_iff, allR_iff, Bool.not_eq_true']
    unfold anyT
    rw [List.any_eq_false]
    constructor
    · rintro hA ⟨p, q⟩ hx
      have := pairsL_lt hlow _ hx
      have h2 := hA p q this.1 this.2 ((h.pairs hn hlow this.1 this.2).2 hx)
      simp only [turnd, decide_eq_true_eq]
      exact h2
    · intro hA a b ha hb hF
      have h2 := hA (a, b) ((h.pairs hn hlow ha hb).1 hF)
      simpa only [turnd, decide_eq_true_eq] using h2

def doneL (n : Nat) (pts : List Nat) : List Bool := (List.range n).map (fun q => pts.contains q)
theorem doneL_length (n : Nat) (pts : List Nat) : (doneL n pts).length = n := by simp [doneL]
theorem doneL_at {n : Nat} (pts : List Nat) {q : Nat} (h : q < n) : (doneL n pts).getD q false = pts.contains q := by simp [doneL, List.getD, h]
theorem doneL_nil (n : Nat) : doneL n [] = List.replicate n false := by
  unfold doneL
  apply List.ext_getElem
  · simp
  · intro i h1 h2; simp
theorem doneL_set {n : Nat} (pts : List Nat) {p : Nat} : (doneL n pts).set p true = doneL n (pts ++ [p]) := by
  apply List.ext_getElem
  · simp [doneL]
  · intro i h1 h2
    rw [List.getElem_set]
    simp only [doneL, List.getElem_map, List.getElem_range]
    by_cases e : p = i
    · subst e; simp
    · rw [if_neg e]
      rw [Bool.eq_iff_iff]
      simp
      exact fun h => absurd h.symm e
theorem free_iff {F : Nat → Nat → Bool} {L : List Nat} (h : TwO L.length F L) (hn : L.length ≤ 256) (hlow : ∀ R ∈ L, R < 2 ^ L.length) (pts : List Nat) {p : Nat} (hp : p < L.length) : freeF L.length F (doneL L.length pts) p = true ↔ wAt (pairsL L) pts p = 0 := by
  unfold freeF
  rw [doneL_at _ hp, Bool.and_eq_true, Bool.not_eq_true', List.all_eq_true]
  unfold wAt
  constructor
  · rintro ⟨h1, h2⟩
    rw [if_neg (by rw [h1]; simp)]
    have : (pairsL L).filter (fun x => x.2 == p && !pts.contains x.1) = [] := by
      rw [List.filter_eq_nil_iff]
      rintro ⟨a, q⟩ hx hc
      simp only [Bool.and_eq_true, beq_iff_eq, Bool.not_eq_true'] at hc
      obtain ⟨rfl, hc⟩ := hc
      have hl := pairsL_lt hlow _ hx
      have h3 := h2 a (List.mem_range.2 hl.1)
      rw [doneL_at _ hl.1, hc, (h.pairs hn hlow hl.1 hp).2 hx] at h3
      cases h3
    rw [this]
    rfl
  · intro h1
    have hnp : pts.contains p = false := by
      cases hc : pts.contains p
      · rfl
      · rw [hc] at h1
        simp at h1
        omega
    refine ⟨hnp, fun a ha => ?_⟩
    have ha := List.mem_range.1 ha
    rw [doneL_at _ ha]
    cases hF : F a p
    · rfl
    · cases hc : pts.contains a
      · exfalso
        rw [hnp] at h1
        have hm : (a, p) ∈ (pairsL L).filter (fun x => x.2 == p && !pts.contains x.1) := by
          rw [List.mem_filter]
          refine ⟨(h.pairs hn hlow ha hp).1 hF, ?_⟩
          simp only [beq_self_eq_true, Bool.true_and, hc, Bool.not_false]
        have := List.length_pos_of_mem hm
        rw [if_neg (by simp)] at h1
        omega
      · rfl
/-- The least point from k on that may come, or -1. -/
def LeastF (n : Nat) (F : Nat → Nat → Bool) (D : List Bool) (k : Nat) (nx : Int) : Prop :=
  (nx = -1 ∧ ∀ q, k ≤ q → q < n → freeF n F D q = false) ∨ ∃ p : Nat, nx = (p : Int) ∧ k ≤ p ∧ p < n ∧ freeF n F D p = true ∧ ∀ q, k ≤ q → q < p → freeF n F D q = false
theorem LeastF.no {n : Nat} {F : Nat → Nat → Bool} {D : List Bool} {k : Nat} {nx : Int} (h : LeastF n F D (k + 1) nx) (hf : freeF n F D k = false) : LeastF n F D k nx := by
  rcases h with ⟨rfl, h⟩ | ⟨p, rfl, h1, h2, h3, h4⟩
  · refine .inl ⟨rfl, fun q hq hn => ?_⟩
    by_cases e : q = k
    · subst e; exact hf
    · exact h q (by omega) hn
  · refine .inr ⟨p, rfl, by omega, h2, h3, fun q hq hp => ?_⟩
    by_cases e : q = k
    · subst e; exact hf
    · exact h4 q (by omega) hp
theorem LeastF.yes {n : Nat} {F : Nat → Nat → Bool} {D : List Bool} {k : Nat} (hk : k < n) (hf : freeF n F D k = true) : LeastF n F D k (k : Int) := .inr ⟨k, rfl, Nat.le_refl _, hk, hf, fun q h1 h2 => by omega⟩
theorem LeastF.start (n : Nat) (F : Nat → Nat → Bool) (D : List Bool) : LeastF n F D n (-1) := .inl ⟨rfl, fun q h1 h2 => by omega⟩
theorem LeastF.fz {F : Nat → Nat → Bool} {L : List Nat} (h : TwO L.length F L) (hn : L.length ≤ 256) (hlow : ∀ R ∈ L, R < 2 ^ L.length) {pts : List Nat} {nx : Int} (hl : LeastF L.length F (doneL L.length pts) 0 nx) : nx = fz (wAll L.length (pairsL L) pts) := by
  have key : ∀ q, q < L.length → freeF L.length F (doneL L.length pts) q = false → (wAll L.length (pairsL L) pts)[q]? ≠ some 0 := by
    intro q hq hf e
    rw [wAll_at _ _ hq] at e
    injection e with e
    rw [(free_iff h hn hlow pts hq).2 e] at hf
    cases hf
  rcases hl with ⟨rfl, h1⟩ | ⟨p, rfl, _, h2, h3, h4⟩
  · rw [fz_none]
    intro q hq
    rw [wAll_length] at hq
    exact key q hq (h1 q (by omega) hq)
  · rw [fz_at]
    · rw [wAll_at _ _ h2, (free_iff h hn hlow pts h2).1 h3]
    · intro i hi
      exact key i (by omega) (h4 i (by omega) hi)
/-- Where the reference stands: so many points are laid, and what Sort lays goes on from them. -/
structure SrtAt (L : List Nat) (i : Nat) (pts : List Nat) : Prop where
  len : pts.length = i
  le : i ≤ L.length
  nodup : pts.Nodup
  lt : ∀ p ∈ pts, p < L.length
  srt : sortOf L = srt L.length (pairsL L) (L.length + 1 - i) pts
theorem SrtAt.begin (L : List Nat) : SrtAt L 0 [] := ⟨rfl, Nat.zero_le _, List.nodup_nil, fun p hp => by simp at hp, rfl⟩
theorem SrtAt.stuck {L : List Nat} {i : Nat} {pts : List Nat} (h : SrtAt L i pts) (hi : i < L.length) (hf : fz (wAll L.length (pairsL L) pts) < 0) : (sortOf L).length ≠ L.length := by
  rw [h.srt, show L.length + 1 - i = (L.length - i) + 1 by omega]
  unfold Go.Proofs.YtmmgdeoballhpaaDoor.srt
  rw [if_neg (by omega), h.len]
  omega
theorem fz_new {L : List Nat} {pts : List Nat} {p : Nat} (hf : fz (wAll L.length (pairsL L) pts) = (p : Int)) : p < L.length ∧ p ∉ pts := by
  obtain ⟨q, h1, h2, h3⟩ := fz_range (l := wAll L.length (pairsL L) pts) (by omega)
  obtain rfl : q = p := by omega
  rw [wAll_length] at h2
  refine ⟨h2, fun hm => ?_⟩
  rw [wAll_at _ _ h2] at h3
  injection h3 with h3
  exact wAt_pos hm h3
theorem SrtAt.next {L : List Nat} {i : Nat} {pts : List Nat} (h : SrtAt L i pts) (hi : i < L.length) {p : Nat} (hf : fz (wAll L.length (pairsL L) pts) = (p : Int)) : SrtAt L (i + 1) (pts ++ [p]) := by
  obtain ⟨h1, h2⟩ := fz_new hf
  refine ⟨by simp [h.len], by omega, ?_, ?_, ?_⟩
  · rw [List.nodup_append]
    refine ⟨h.nodup, by simp, ?_⟩
    intro a ha b hb e
    simp at hb
    subst hb
    subst e
    exact h2 ha
  · intro q hq
    rcases List.mem_append.1 hq with hq | hq
    · exact h.lt q hq
    · simp at hq; subst hq; exact h1
  · rw [h.srt, show L.length + 1 - i = (L.length - i) + 1 by omega]
    conv => lhs; unfold Go.Proofs.YtmmgdeoballhpaaDoor.srt
    rw [if_pos (by omega), hf, Int.toNat_natCast]
    congr 1
    omega
theorem SrtAt.full {L : List Nat} {pts : List Nat} (h : SrtAt L L.length pts) : sortOf L = pts := by
  rw [h.srt, show L.length + 1 - L.length = 0 + 1 by omega]
  unfold Go.Proofs.YtmmgdeoballhpaaDoor.srt
  rw [if_neg]
  intro hf
  obtain ⟨p, h1, h2, h3⟩ := fz_range hf
  obtain ⟨h4, h5⟩ := fz_new h1
  have hN := nodup_le L.length (pts ++ [p]) (by
    rw [List.nodup_append]
    refine ⟨h.nodup, by simp, ?_⟩
    intro a ha b hb e
    simp at hb
    subst hb
    subst e
    exact h5 ha) (fun q hq => by
    rcases List.mem_append.1 hq with hq | hq
    · exact h.lt q hq
    · simp at hq; subst hq; exact h4)
  rw [List.length_append, h.len] at hN
  simp at hN
  omega
end Go.Proofs.YtmmgdeoballhpaaDoor
/- Glue: the units of the reference, by their first points, and the blocks of the program, by their places. -/
namespace Go.Proofs.YtmmgdeoballhpaaDoor
open Go.RowKit Go.Shelf Sx

/-- Where the reference stands in its pairs: the numbers of the units, what comes next in a unit, and which points are used; beside the program's blocks. -/
structure GlOf (n : Nat) (bs : List (List Nat)) (O : List Nat) (X : List Int) (U : List Bool) : Prop where
  lb : bs.length = n
  lo : O.length = n
  lx : X.length = n
  lu : U.length = n
  one : ∀ p, p < n → U.getD p false = false → bs.getD p [] = [p] ∧ O.getD p 0 = p ∧ X.getD p 0 = -1
  two : ∀ p, p < n → U.getD p false = true → (∃ q, q < n ∧ q ≠ p ∧ bs.getD p [] = [p, q] ∧ O.getD p 0 = p ∧ X.getD p 0 = (q : Int) ∧ U.getD q false = true ∧ bs.getD q [] = [] ∧ O.getD q 0 = p ∧ X.getD q 0 = -1) ∨ (∃ a, a < n ∧ a ≠ p ∧ bs.getD a [] = [a, p] ∧ O.getD a 0 = a ∧ X.getD a 0 = (p : Int) ∧ U.getD a false = true ∧ bs.getD p [] = [] ∧ O.getD p 0 = a ∧ X.getD p 0 = -1)
theorem getD_setU {α : Type} (l : List α) (i q : Nat) (x d : α) (hi : i < l.length) : (l.set i x).getD q d = if i = q then x else l.getD q d := by
  simp only [List.getD_eq_getElem?_getD, List.getElem?_set]
  by_cases h : i = q
  · subst h; simp [hi]
  · simp [h]
theorem GlOf.start (n : Nat) : GlOf n (glInit n) (List.range n) (List.replicate n (-1)) (List.replicate n false) := by
  refine ⟨by simp [glInit], by simp, by simp, by simp, ?_, ?_⟩
  · intro p hp _
    simp [glInit, List.getD_eq_getElem?_getD, hp]
  · intro p hp h
    simp [List.getD_eq_getElem?_getD, hp] at h
theorem GlOf.step {n : Nat} {bs : List (List Nat)} {O : List Nat} {X : List Int} {U : List Bool} (h : GlOf n bs O X U) {a b : Nat} (ha : a < n) (hb : b < n) (hab : a ≠ b) (ua : U.getD a false = false) (ub : U.getD b false = false) :
    GlOf n ((bs.set a [a, b]).set b []) (O.set b a) (X.set a (b : Int)) ((U.set a true).set b true) := by
  obtain ⟨a1, a2, a3⟩ := h.one a ha ua
  obtain ⟨b1, b2, b3⟩ := h.one b hb ub
  have hbs : ∀ q, ((bs.set a [a, b]).set b []).getD q [] = if b = q then [] else if a = q then [a, b] else bs.getD q [] := by
    intro q
    rw [getD_setU _ _ _ _ _ (by rw [List.length_set, h.lb]; exact hb), getD_setU _ _ _ _ _ (by rw [h.lb]; exact ha)]
  have hO : ∀ q, (O.set b a).getD q 0 = if b = q then a else O.getD q 0 := fun q => getD_setU _ _ _ _ _ (by rw [h.lo]; exact hb)
  have hX : ∀ q, (X.set a (b : Int)).getD q 0 = if a = q then (b : Int) else X.getD q 0 := fun q => getD_setU _ _ _ _ _ (by rw [h.lx]; exact ha)
  have hU : ∀ q, ((U.set a true).set b true).getD q false = if b = q then true else if a = q then true else U.getD q false := by
    intro q
    rw [getD_setU _ _ _ _ _ (by rw [List.length_set, h.lu]; exact hb), getD_setU _ _ _ _ _ (by rw [h.lu]; exact ha)]
  refine ⟨by simp [h.lb], by simp [h.lo], by simp [h.lx], by simp [h.lu], ?_, ?_⟩
  · intro p hp hu
    rw [hU] at hu
    by_cases e1 : b = p
    · rw [if_pos e1] at hu; cases hu
    rw [if_neg e1] at hu
    by_cases e2 : a = p
    · rw [if_pos e2] at hu; cases hu
    rw [if_neg e2] at hu
    rw [hbs, hO, hX, if_neg e1, if_neg e2, if_neg e1, if_neg e2]
    exact h.one p hp hu
  · intro p hp hu
    rw [hU] at hu
    by_cases e1 : b = p
    · subst e1
      refine Or.inr ⟨a, ha, hab, ?_⟩
      rw [hbs, hO, hX, hU, hbs, hO, hX, if_neg (Ne.symm hab), if_pos rfl, if_neg (Ne.symm hab), if_pos rfl, if_neg (Ne.symm hab), if_pos rfl, if_pos rfl, if_pos rfl, if_neg hab]
      exact ⟨rfl, a2, rfl, rfl, rfl, rfl, b3⟩
    rw [if_neg e1] at hu
    by_cases e2 : a = p
    · subst e2
      refine Or.inl ⟨b, hb, Ne.symm hab, ?_⟩
      rw [hbs, hO, hX, hU, hbs, hO, hX, if_neg e1, if_pos rfl, if_neg e1, if_pos rfl, if_pos rfl, if_pos rfl, if_pos rfl, if_neg hab]
      exact ⟨rfl, a2, rfl, rfl, rfl, rfl, b3⟩
    rw [if_neg e2] at hu
    rcases h.two p hp hu with ⟨q, q1, q2, q3, q4, q5, q6, q7, q8, q9⟩ | ⟨q, q1, q2, q3, q4, q5, q6, q7, q8, q9⟩
    · have f1 : b ≠ q := fun e => by subst e; rw [ub] at q6; cases q6
      have f2 : a ≠ q := fun e => by subst e; rw [ua] at q6; cases q6
      refine Or.inl ⟨q, q1, q2, ?_⟩
      rw [hbs, hO, hX, hU, hbs, hO, hX, if_neg e1, if_neg e2, if_neg e1, if_neg e2, if_neg f1, if_neg f2, if_neg f1, if_neg f2, if_neg f1, if_neg f2]
      exact ⟨q3, q4, q5, q6, q7, q8, q9⟩
    · have f1 : b ≠ q := fun e => by subst e; rw [ub] at q6; cases q6
      have f2 : a ≠ q := fun e => by subst e; rw [ua] at q6; cases q6
      refine Or.inr ⟨q, q1, q2, ?_⟩
      rw [hbs, hO, hX, hU, hbs, hO, hX, if_neg f1, if_neg f2, if_neg f1, if_neg f2, if_neg f1, if_neg f2, if_neg e1, if_neg e2, if_neg e1, if_neg e2]
      exact ⟨q3, q4, q5, q6, q7, q8, q9⟩
theorem GlOf.free {n : Nat} {bs : List (List Nat)} {O : List Nat} {X : List Int} {U : List Bool} (h : GlOf n bs O X U) (p : Int) : freeB n bs p = (inR n p && !U.getD p.toNat false) := by
  unfold freeB
  cases hi : inR n p
  · rfl
  · have hp : p.toNat < n := by
      have := of_decide_eq_true hi
      omega
    rw [Bool.true_and, Bool.true_and]
    cases hu : U.getD p.toNat false
    · rw [(h.one _ hp hu).1]; rfl
    · rcases h.two _ hp hu with ⟨q, _, _, q3, _⟩ | ⟨q, _, _, _, _, _, _, q7, _⟩
      · rw [q3]; rfl
      · rw [q7]; rfl
/-- The unit of a point holds it; its first point is its number. -/
theorem GlOf.unit {n : Nat} {bs : List (List Nat)} {O : List Nat} {X : List Int} {U : List Bool} (h : GlOf n bs O X U) {p : Nat} (hp : p < n) : O.getD p 0 < n ∧ O.getD (O.getD p 0) 0 = O.getD p 0 ∧ p ∈ bs.getD (O.getD p 0) [] ∧ (bs.getD p [] = [] ↔ O.getD p 0 ≠ p) := by
  cases hu : U.getD p false
  · obtain ⟨a1, a2, a3⟩ := h.one p hp hu
    rw [a2, a2, a1]
    exact ⟨hp, rfl, by simp, by simp⟩
  · rcases h.two p hp hu with ⟨q, q1, q2, q3, q4, q5, q6, q7, q8, q9⟩ | ⟨q, q1, q2, q3, q4, q5, q6, q7, q8, q9⟩
    · rw [q4, q4, q3]
      exact ⟨hp, rfl, by simp, by simp⟩
    · rw [q8, q4, q3, q7]
      exact ⟨q1, rfl, by simp, by simp [q2]⟩
theorem GlOf.mem {n : Nat} {bs : List (List Nat)} {O : List Nat} {X : List Int} {U : List Bool} (h : GlOf n bs O X U) {u p : Nat} (hu : u < n) (hm : p ∈ bs.getD u []) : p < n ∧ O.getD p 0 = u := by
  cases e : U.getD u false
  · obtain ⟨a1, a2, a3⟩ := h.one u hu e
    rw [a1] at hm
    simp at hm
    subst hm
    exact ⟨hu, a2⟩
  · rcases h.two u hu e with ⟨q, q1, q2, q3, q4, q5, q6, q7, q8, q9⟩ | ⟨q, q1, q2, q3, q4, q5, q6, q7, q8, q9⟩
    · rw [q3] at hm
      simp at hm
      rcases hm with rfl | rfl
      · exact ⟨hu, q4⟩
      · exact ⟨q1, q8⟩
    · rw [q7] at hm
      simp at hm
/-- The first points of the units, rising. -/
def fsts (n : Nat) (O : List Nat) : List Nat := (List.range n).filter (fun p => O.getD p 0 == p)
theorem fsts_mem {n : Nat} {O : List Nat} {u : Nat} : u ∈ fsts n O ↔ u < n ∧ O.getD u 0 = u := by simp [fsts]
theorem fsts_rise (n : Nat) (O : List Nat) : (fsts n O).Pairwise (· < ·) := List.Pairwise.filter _ List.pairwise_lt_range
theorem rise_lt {l : List Nat} (h : l.Pairwise (· < ·)) {i j a b : Nat} (hi : l[i]? = some a) (hj : l[j]? = some b) : i < j ↔ a < b := by
  have key : ∀ i j a b : Nat, l[i]? = some a → l[j]? = some b → i < j → a < b := by
    intro i j a b hi hj hij
    obtain ⟨h1, e1⟩ := List.getElem?_eq_some_iff.1 hi
    obtain ⟨h2, e2⟩ := List.getElem?_eq_some_iff.1 hj
    have := List.pairwise_iff_getElem.1 h i j h1 h2 hij
    omega
  constructor
  · exact key i j a b hi hj
  · intro hab
    rcases Nat.lt_trichotomy i j with e | e | e
    · exact e
    · subst e
      rw [hi] at hj
      have := Option.some.inj hj
      omega
    · have := key j i b a hj hi e
      omega
theorem rise_inj {l : List Nat} (h : l.Pairwise (· < ·)) {i j a : Nat} (hi : l[i]? = some a) (hj : l[j]? = some a) : i = j := by
  have h1 := rise_lt h hi hj
  have h2 := rise_lt h hj hi
  omega
theorem GlOf.blocks {n : Nat} {bs : List (List Nat)} {O : List Nat} {X : List Int} {U : List Bool} (h : GlOf n bs O X U) : bs.filter (fun b => !b.isEmpty) = (fsts n O).map (fun p => bs.getD p []) := by
  have e : bs = (List.range n).map (fun p => bs.getD p []) := by
    apply List.ext_getElem?
    intro i
    rw [List.getElem?_map]
    by_cases hi : i < n
    · rw [List.getElem?_range hi, List.getElem?_eq_getElem (by rw [h.lb]; exact hi)]
      simp [List.getD_eq_getElem?_getD, h.lb, hi]
    · rw [List.getElem?_eq_none (by rw [h.lb]; omega), List.getElem?_eq_none (by simp; omega)]
      rfl
  conv => lhs; rw [e]
  rw [List.filter_map]
  congr 1
  unfold fsts
  apply List.filter_congr
  intro p hp
  have hp := List.mem_range.1 hp
  have hu := (h.unit hp).2.2.2
  simp only [Function.comp]
  rw [Bool.eq_iff_iff, beq_iff_eq, Bool.not_eq_true', List.isEmpty_eq_false_iff]
  constructor
  · intro h1
    exact Classical.byContradiction fun e => h1 (hu.2 e)
  · intro h1 h2
    exact hu.1 h2 h1
/-- The number of a point's block. -/
theorem GlOf.idx {n : Nat} {bs : List (List Nat)} {O : List Nat} {X : List Int} {U : List Bool} (h : GlOf n bs O X U) {p : Nat} (hp : p < n) : ∃ i : Nat, (fsts n O)[i]? = some (O.getD p 0) := by
  obtain ⟨h1, h2, _⟩ := h.unit hp
  exact List.getElem?_of_mem (fsts_mem.2 ⟨h1, h2⟩)
theorem setAll_at (i : Nat) : ∀ (b : List Nat) (B : List Int) (p : Nat), p < B.length → (setAll B i b).getD p 0 = if p ∈ b then (i : Int) else B.getD p 0
  | [], B, p, _ => by simp [setAll]
  | q :: b, B, p, hp => by
    have := setAll_at i b (B.set q (i : Int)) p (by rw [List.length_set]; exact hp)
    have e : setAll B i (q :: b) = setAll (B.set q (i : Int)) i b := rfl
    rw [e, this]
    by_cases h1 : p ∈ b
    · rw [if_pos h1, if_pos (List.mem_cons_of_mem _ h1)]
    · rw [if_neg h1]
      by_cases h2 : p = q
      · subst h2
        rw [if_pos (List.mem_cons_self ..), getD_setU _ _ _ _ _ hp, if_pos rfl]
      · rw [if_neg (by simp [h1, h2])]
        by_cases hq : q < B.length
        · rw [getD_setU _ _ _ _ _ hq, if_neg (fun e => h2 e.symm)]
        · rw [List.set_eq_of_length_le (by omega)]
theorem GlOf.blk {n : Nat} {bs : List (List Nat)} {O : List Nat} {X : List Int} {U : List Bool} (h : GlOf n bs O X U) {p i : Nat} (hp : p < n) (hi : (fsts n O)[i]? = some (O.getD p 0)) : (blkK n (bs.filter (fun b => !b.isEmpty)) (bs.filter (fun b => !b.isEmpty)).length).getD p 0 = (i : Int) := by
  rw [h.blocks]
  have key : ∀ k, k ≤ (fsts n O).length → (blkK n ((fsts n O).map (fun p => bs.getD p [])) k).getD p 0 = if i < k then (i : Int) else 0 := by
    intro k
    induction k with
    | zero =>
      intro _
      simp [blkK, List.getD_eq_getElem?_getD, hp]
    | succ k ih =>
      intro hk
      rw [blkK_succ, setAll_at _ _ _ _ (by rw [blkK_length]; exact hp), ih (by omega)]
      have hkl : k < (fsts n O).length := by omega
      have e : ((fsts n O).map (fun p => bs.getD p [])).getD k [] = bs.getD (fsts n O)[k] [] := by
        simp [List.getD_eq_getElem?_getD, hkl]
      rw [e]
      have hm := fsts_mem.1 (List.getElem_mem hkl)
      by_cases hik : i = k
      · subst hik
        have e2 : (fsts n O)[i] = O.getD p 0 := by
          rw [List.getElem?_eq_getElem hkl] at hi
          exact Option.some.inj hi
        rw [e2, if_pos (h.unit hp).2.2.1, if_pos (by omega)]
      · have hnm : p ∉ bs.getD (fsts n O)[k] [] := by
          intro hmem
          have := (h.mem hm.1 hmem).2
          apply hik
          exact rise_inj (fsts_rise n O) hi (by rw [List.getElem?_eq_getElem hkl, this])
        rw [if_neg hnm]
        by_cases hlt : i < k
        · rw [if_pos hlt, if_pos (by omega)]
        · rw [if_neg hlt, if_neg (by omega)]
  have hil := (List.getElem?_eq_some_iff.1 hi).1
  rw [List.length_map, key _ (Nat.le_refl _), if_pos hil]
/-- The relation of blocks, as a table. -/
def BF (B : List Int) (ps : List (Nat × Nat)) (i j : Nat) : Bool := ps.any (fun x => B.getD x.1 0 != B.getD x.2 0 && B.getD x.1 0 == (i : Int) && B.getD x.2 0 == (j : Int))
theorem twO_btK (B : List Int) (m : Nat) (ps : List (Nat × Nat)) : TwO m (BF B ps) (btK B m ps) := by
  have key : ∀ k, k ≤ ps.length → TwO m (BF B (ps.take k)) (btK B m (ps.take k)) := by
    intro k
    induction k with
    | zero =>
      intro _
      refine ⟨by simp [btK], ?_⟩
      intro p q hp hq
      simp [BF, btK, gr, List.getD_eq_getElem?_getD, hp]
    | succ k ih =>
      intro hk
      have ih := ih (by omega)
      have e : ps.take (k + 1) = ps.take k ++ [ps[k]] := by rw [List.take_append_getElem]
      rw [e, btK_snoc]
      generalize ps[k] = x
      by_cases hx : B.getD x.1 0 = B.getD x.2 0
      · rw [if_pos hx]
        refine ⟨ih.len, fun p q hp hq => ?_⟩
        rw [← ih.same p q hp hq]
        unfold BF
        have e0 : (B.getD x.1 0 != B.getD x.2 0) = false := by rw [hx]; simp
        rw [List.any_append]
        simp only [List.any_cons, List.any_nil, Bool.or_false, e0, Bool.false_and]
      · rw [if_neg hx]
        have h2 := twO_put ih (B.getD x.1 0) (B.getD x.2 0) true
        refine ⟨h2.len, fun p q hp hq => ?_⟩
        rw [← h2.same p q hp hq]
        unfold BF putF upd
        rw [List.any_append]
        by_cases hin : (inR m (B.getD x.1 0) && inR m (B.getD x.2 0)) = true
        · rw [if_pos hin]
          rw [Bool.and_eq_true] at hin
          have i1 := of_decide_eq_true hin.1
          have i2 := of_decide_eq_true hin.2
          by_cases hpq : p = (B.getD x.1 0).toNat ∧ q = (B.getD x.2 0).toNat
          · rw [if_pos hpq]
            have e1 : B.getD x.1 0 = (p : Int) := by omega
            have e2 : B.getD x.2 0 = (q : Int) := by omega
            rw [e1, e2] at hx
            simp only [List.any_cons, List.any_nil, Bool.or_false, e1, e2, beq_self_eq_true, Bool.and_true]
            rw [Bool.or_eq_true]
            right
            simpa using hx
          · rw [if_neg hpq]
            have : (B.getD x.1 0 != B.getD x.2 0 && B.getD x.1 0 == (p : Int) && B.getD x.2 0 == (q : Int)) = false := by
              rw [Bool.eq_false_iff]
              intro hc
              rw [Bool.and_eq_true, Bool.and_eq_true, beq_iff_eq, beq_iff_eq] at hc
              apply hpq
              omega
            simp only [List.any_cons, List.any_nil, Bool.or_false, this]
        · rw [if_neg hin]
          have : (B.getD x.1 0 != B.getD x.2 0 && B.getD x.1 0 == (p : Int) && B.getD x.2 0 == (q : Int)) = false := by
            rw [Bool.eq_false_iff]
            intro hc
            rw [Bool.and_eq_true, Bool.and_eq_true, beq_iff_eq, beq_iff_eq] at hc
            apply hin
            rw [Bool.and_eq_true]
            constructor
            · exact decide_eq_true (by omega)
            · exact decide_eq_true (by omega)
          simp only [List.any_cons, List.any_nil, Bool.or_false, this]
  have := key ps.length (Nat.le_refl _)
  rw [List.take_length] at this
  exact this
/-- The relation of units by their first points, as the reference lays it. -/
def SmU (n : Nat) (F : Nat → Nat → Bool) (O : List Nat) (X : List Int) (u v : Nat) : Bool := (List.range n).any fun p => (List.range n).any fun q => F p q && X.getD p 0 != (q : Int) && O.getD p 0 == u && O.getD q 0 == v
theorem SmU_iff {n : Nat} {F : Nat → Nat → Bool} {O : List Nat} {X : List Int} {u v : Nat} : SmU n F O X u v = true ↔ ∃ p q, p < n ∧ q < n ∧ F p q = true ∧ X.getD p 0 ≠ (q : Int) ∧ O.getD p 0 = u ∧ O.getD q 0 = v := by
  unfold SmU
  simp only [List.any_eq_true, List.mem_range, Bool.and_eq_true, bne_iff_ne, ne_eq, beq_iff_eq]
  constructor
  · rintro ⟨p, hp, q, hq, ⟨⟨h1, h2⟩, h3⟩, h4⟩
    exact ⟨p, q, hp, hq, h1, h2, h3, h4⟩
  · rintro ⟨p, q, hp, hq, h1, h2, h3, h4⟩
    exact ⟨p, hp, q, hq, ⟨⟨h1, h2⟩, h3⟩, h4⟩
/-- What comes next in a unit is of that unit. -/
theorem GlOf.nx {n : Nat} {bs : List (List Nat)} {O : List Nat} {X : List Int} {U : List Bool} (h : GlOf n bs O X U) {p q : Nat} (hp : p < n) (hx : X.getD p 0 = (q : Int)) : O.getD p 0 = p ∧ O.getD q 0 = p ∧ q ≠ p ∧ q < n ∧ bs.getD p [] = [p, q] := by
  cases hu : U.getD p false
  · obtain ⟨_, _, a3⟩ := h.one p hp hu
    rw [a3] at hx
    omega
  · rcases h.two p hp hu with ⟨r, q1, q2, q3, q4, q5, q6, q7, q8, q9⟩ | ⟨r, q1, q2, q3, q4, q5, q6, q7, q8, q9⟩
    · rw [q5] at hx
      obtain rfl : r = q := by omega
      exact ⟨q4, q8, q2, q1, q3⟩
    · rw [q9] at hx
      omega
/-- The blocks' table, by points. -/
theorem BF_iff {n : Nat} {bs : List (List Nat)} {O : List Nat} {X : List Int} {U : List Bool} (h : GlOf n bs O X U) {F : Nat → Nat → Bool} {ps : List (Nat × Nat)} (hps : ∀ p q, (p, q) ∈ ps ↔ p < n ∧ q < n ∧ F p q = true) {i j u v : Nat} (hi : (fsts n O)[i]? = some u) (hj : (fsts n O)[j]? = some v) :
    BF (blkK n (bs.filter (fun b => !b.isEmpty)) (bs.filter (fun b => !b.isEmpty)).length) ps i j = true ↔ u ≠ v ∧ ∃ p q, p < n ∧ q < n ∧ F p q = true ∧ O.getD p 0 = u ∧ O.getD q 0 = v := by
  have huv : i = j ↔ u = v := by
    constructor
    · rintro rfl; rw [hi] at hj; exact Option.some.inj hj
    · rintro rfl; exact rise_inj (fsts_rise n O) hi hj
  unfold BF
  rw [List.any_eq_true]
  constructor
  · rintro ⟨⟨p, q⟩, hm, hc⟩
    obtain ⟨hp, hq, hF⟩ := (hps p q).1 hm
    simp only [Bool.and_eq_true, bne_iff_ne, ne_eq, beq_iff_eq] at hc
    obtain ⟨⟨c1, c2⟩, c3⟩ := hc
    obtain ⟨i', hi'⟩ := h.idx hp
    obtain ⟨j', hj'⟩ := h.idx hq
    rw [h.blk hp hi'] at c2
    rw [h.blk hq hj'] at c3
    obtain rfl : i' = i := by omega
    obtain rfl : j' = j := by omega
    rw [hi] at hi'
    rw [hj] at hj'
    refine ⟨?_, p, q, hp, hq, hF, (Option.some.inj hi').symm, (Option.some.inj hj').symm⟩
    intro e
    have := huv.2 e
    subst this
    apply c1
    rw [h.blk hp (i := i') (by rw [hi, hi']), h.blk hq (i := i') (by rw [hj, hj'])]
  · rintro ⟨huv2, p, q, hp, hq, hF, h1, h2⟩
    refine ⟨(p, q), (hps p q).2 ⟨hp, hq, hF⟩, ?_⟩
    simp only [Bool.and_eq_true, bne_iff_ne, ne_eq, beq_iff_eq]
    rw [h.blk hp (i := i) (by rw [hi, h1]), h.blk hq (i := j) (by rw [hj, h2])]
    refine ⟨⟨?_, rfl⟩, rfl⟩
    intro e
    apply huv2
    apply huv.1
    omega
theorem SmU_BF {n : Nat} {bs : List (List Nat)} {O : List Nat} {X : List Int} {U : List Bool} (h : GlOf n bs O X U) {F : Nat → Nat → Bool} {ps : List (Nat × Nat)} (hps : ∀ p q, (p, q) ∈ ps ↔ p < n ∧ q < n ∧ F p q = true) {i j u v : Nat} (hi : (fsts n O)[i]? = some u) (hj : (fsts n O)[j]? = some v) (hne : u ≠ v) :
    SmU n F O X u v = BF (blkK n (bs.filter (fun b => !b.isEmpty)) (bs.filter (fun b => !b.isEmpty)).length) ps i j := by
  rw [Bool.eq_iff_iff, SmU_iff, BF_iff h hps hi hj]
  constructor
  · rintro ⟨p, q, hp, hq, h1, h2, h3, h4⟩
    exact ⟨hne, p, q, hp, hq, h1, h3, h4⟩
  · rintro ⟨_, p, q, hp, hq, h1, h3, h4⟩
    refine ⟨p, q, hp, hq, h1, ?_, h3, h4⟩
    intro e
    obtain ⟨e1, e2, _⟩ := h.nx hp e
    apply hne
    rw [← h3, ← h4, e1, e2]
/-- The points of the units that are laid. -/
def laidU (bs : List (List Nat)) (fs : List Nat) (pts : List Nat) : List Nat := (pts.map (fun i => bs.getD (fs.getD i 0) [])).flatten
theorem laidU_snoc (bs : List (List Nat)) (fs pts : List Nat) (i : Nat) : laidU bs fs (pts ++ [i]) = laidU bs fs pts ++ bs.getD (fs.getD i 0) [] := by simp [laidU]
theorem laidU_mem {n : Nat} {bs : List (List Nat)} {O : List Nat} {X : List Int} {U : List Bool} (h : GlOf n bs O X U) {pts : List Nat} (hlt : ∀ i ∈ pts, i < (fsts n O).length) {j u p : Nat} (hp : p < n) (hj : (fsts n O)[j]? = some u) (hO : O.getD p 0 = u) : p ∈ laidU bs (fsts n O) pts ↔ j ∈ pts := by
  unfold laidU
  rw [List.mem_flatten]
  constructor
  · rintro ⟨b, hb, hpb⟩
    obtain ⟨i, hi, rfl⟩ := List.mem_map.1 hb
    have hil := hlt i hi
    have e : (fsts n O).getD i 0 = (fsts n O)[i] := by simp [List.getD_eq_getElem?_getD, hil]
    rw [e] at hpb
    have hm := fsts_mem.1 (List.getElem_mem hil)
    have h2 := (h.mem hm.1 hpb).2
    have : i = j := rise_inj (fsts_rise n O) (List.getElem?_eq_getElem hil) (by rw [hj, ← h2, hO])
    rw [← this]
    exact hi
  · intro hjp
    refine ⟨bs.getD ((fsts n O).getD j 0) [], List.mem_map.2 ⟨j, hjp, rfl⟩, ?_⟩
    have : (fsts n O).getD j 0 = u := by rw [List.getD_eq_getElem?_getD, hj]; rfl
    rw [this, ← hO]
    exact (h.unit hp).2.2.1
/-- A unit is free for the reference just where its block is for the program's Sort, if it is not against itself. -/
theorem free_same {n : Nat} {bs : List (List Nat)} {O : List Nat} {X : List Int} {U : List Bool} (h : GlOf n bs O X U) {F : Nat → Nat → Bool} {ps : List (Nat × Nat)} (hps : ∀ p q, (p, q) ∈ ps ↔ p < n ∧ q < n ∧ F p q = true) {pts : List Nat} (hlt : ∀ i ∈ pts, i < (fsts n O).length) {j u : Nat} (hj : (fsts n O)[j]? = some u) (hgood : SmU n F O X u u = false) :
    freeF n (SmU n F O X) (doneL n (laidU bs (fsts n O) pts)) u = freeF (fsts n O).length (BF (blkK n (bs.filter (fun b => !b.isEmpty)) (bs.filter (fun b => !b.isEmpty)).length) ps) (doneL (fsts n O).length pts) j := by
  have hu := fsts_mem.1 (List.mem_of_getElem? hj)
  have hjl := (List.getElem?_eq_some_iff.1 hj).1
  unfold freeF
  rw [doneL_at _ hu.1, doneL_at _ hjl]
  have e1 : (laidU bs (fsts n O) pts).contains u = pts.contains j := by
    rw [Bool.eq_iff_iff, List.contains_iff_mem, List.contains_iff_mem]
    exact laidU_mem h hlt hu.1 hj hu.2
  rw [e1]
  congr 1
  rw [Bool.eq_iff_iff, List.all_eq_true, List.all_eq_true]
  constructor
  · intro ha i hi
    have hi := List.mem_range.1 hi
    rw [doneL_at _ hi]
    have hfi : (fsts n O)[i]? = some (fsts n O)[i] := List.getElem?_eq_getElem hi
    generalize (fsts n O)[i] = v at hfi
    have hv := fsts_mem.1 (List.mem_of_getElem? hfi)
    have := ha v (List.mem_range.2 hv.1)
    rw [doneL_at _ hv.1] at this
    have e2 : (laidU bs (fsts n O) pts).contains v = pts.contains i := by
      rw [Bool.eq_iff_iff, List.contains_iff_mem, List.contains_iff_mem]
      exact laidU_mem h hlt hv.1 hfi hv.2
    rw [e2] at this
    by_cases hvu : v = u
    · subst hvu
      cases hb : BF (blkK n (bs.filter (fun b => !b.isEmpty)) (bs.filter (fun b => !b.isEmpty)).length) ps i j
      · rfl
      · exact absurd rfl ((BF_iff h hps hfi hj).1 hb).1
    · rw [← SmU_BF h hps hfi hj hvu]
      exact this
  · intro ha a han
    have han := List.mem_range.1 han
    rw [doneL_at _ han]
    cases hS : SmU n F O X a u
    · rfl
    · obtain ⟨p, q, hp, hq, c1, c2, c3, c4⟩ := SmU_iff.1 hS
      obtain ⟨i, hi⟩ := h.idx hp
      rw [c3] at hi
      have hil := (List.getElem?_eq_some_iff.1 hi).1
      have ha1 := fsts_mem.1 (List.mem_of_getElem? hi)
      have hau : a ≠ u := fun e => by rw [e, hgood] at hS; cases hS
      have := ha i (List.mem_range.2 hil)
      rw [doneL_at _ hil, ← SmU_BF h hps hi hj hau, hS] at this
      have e2 : (laidU bs (fsts n O) pts).contains a = pts.contains i := by
        rw [Bool.eq_iff_iff, List.contains_iff_mem, List.contains_iff_mem]
        exact laidU_mem h hlt ha1.1 hi ha1.2
      rw [e2]
      exact this
theorem bad_stays {n : Nat} {F : Nat → Nat → Bool} {O : List Nat} {X : List Int} {u : Nat} (hu : u < n) (hbad : SmU n F O X u u = true) (D : List Bool) : freeF n (SmU n F O X) D u = false := by
  rw [Bool.eq_false_iff]
  intro e
  unfold freeF at e
  rw [Bool.and_eq_true, Bool.not_eq_true', List.all_eq_true] at e
  have := e.2 u (List.mem_range.2 hu)
  rw [hbad, e.1] at this
  exact absurd this (by decide)
theorem puts_at (n : Nat) : ∀ (rest : List Nat) (k : Nat) (pl : List Int), pl.length = n → rest.Nodup → (∀ x ∈ rest, x < n ∧ pl.getD x 0 = 0) → ∃ pl', putsF n (toI rest) k pl = some pl' ∧ ∀ p, p < n → pl'.getD p 0 = if p ∈ rest then ((k + rest.idxOf p + 1 : Nat) : Int) else pl.getD p 0
  | [], k, pl, _, _, _ => ⟨pl, rfl, fun p _ => by simp⟩
  | x :: xs, k, pl, hl, hn, hx => by
    obtain ⟨h1, h2⟩ := hx x (List.mem_cons_self ..)
    rw [List.nodup_cons] at hn
    have hin : inR n (x : Int) = true := decide_eq_true (by omega)
    have hset : ∀ p, (pl.set x ((k : Int) + 1)).getD p 0 = if x = p then (k : Int) + 1 else pl.getD p 0 := fun p => getD_setU _ _ _ _ _ (by omega)
    obtain ⟨pl', e1, e2⟩ := puts_at n xs (k + 1) (pl.set x ((k : Int) + 1)) (by simp [hl]) hn.2 (fun y hy => by
      have := hx y (List.mem_cons_of_mem _ hy)
      refine ⟨this.1, ?_⟩
      have hxy : ¬ x = y := fun e => hn.1 (by rw [e]; exact hy)
      rw [hset, if_neg hxy]
      exact this.2)
    refine ⟨pl', ?_, ?_⟩
    · show putsF n ((x : Int) :: toI xs) k pl = some pl'
      unfold putsF
      rw [if_pos ⟨hin, by rw [Int.toNat_natCast]; exact h2⟩, Int.toNat_natCast]
      exact e1
    · intro p hp
      rw [e2 p hp]
      by_cases hpx : p ∈ xs
      · have hne : x ≠ p := fun e => hn.1 (e ▸ hpx)
        rw [if_pos hpx, if_pos (List.mem_cons_of_mem _ hpx), List.idxOf_cons]
        have : (x == p) = false := by simpa using hne
        rw [this]
        simp only [cond_false]
        omega
      · rw [if_neg hpx, hset]
        by_cases e : x = p
        · subst e
          rw [if_pos rfl, if_pos (List.mem_cons_self ..), List.idxOf_cons_self]
          omega
        · have e' : ¬ p = x := fun h => e h.symm
          rw [if_neg e, if_neg (by simp [hpx, e'])]
theorem sub_len : ∀ (l l' : List Nat), l.Nodup → (∀ x ∈ l, x ∈ l') → l.length ≤ l'.length
  | [], _, _, _ => Nat.zero_le _
  | x :: l, l', hn, hs => by
    rw [List.nodup_cons] at hn
    have hx := hs x (List.mem_cons_self ..)
    have := sub_len l (l'.erase x) hn.2 (fun y hy => (List.mem_erase_of_ne (fun (e : y = x) => hn.1 (by rw [← e]; exact hy))).2 (hs y (List.mem_cons_of_mem _ hy)))
    rw [List.length_erase_of_mem hx] at this
    have h0 : 0 < l'.length := List.length_pos_of_mem hx
    rw [List.length_cons]
    omega
/-- A list of all points is linear just where each pair's first stands ahead of its second. -/
theorem lin_iff {L : List Nat} {F : Nat → Nat → Bool} (hps : ∀ p q, (p, q) ∈ pairsL L ↔ p < L.length ∧ q < L.length ∧ F p q = true) {l : List Nat} (hn : l.Nodup) (hlt : ∀ x ∈ l, x < L.length) (hl : l.length = L.length) (hall : ∀ p, p < L.length → p ∈ l) : linB L (toI l) = true ↔ ∀ p q, p < L.length → q < L.length → F p q = true → l.idxOf p < l.idxOf q := by
  obtain ⟨pl, e1, e2⟩ := puts_at L.length l 0 (List.replicate L.length 0) (by simp) hn (fun x hx => ⟨hlt x hx, by simp [List.getD_eq_getElem?_getD, hlt x hx]⟩)
  unfold linB
  have hz : ((toI l).length == L.length) = true := by simp [toI, hl]
  rw [hz, e1, Bool.true_and]
  show (!anyT pl (pairsL L)) = true ↔ _
  unfold anyT
  rw [Bool.not_eq_true', List.any_eq_false]
  constructor
  · intro h p q hp hq hF
    have := h (p, q) ((hps p q).2 ⟨hp, hq, hF⟩)
    unfold turnd at this
    simp only [decide_eq_true_eq] at this
    rw [e2 p hp, e2 q hq, if_pos (hall p hp), if_pos (hall q hq)] at this
    omega
  · rintro h ⟨p, q⟩ hm
    obtain ⟨hp, hq, hF⟩ := (hps p q).1 hm
    have := h p q hp hq hF
    unfold turnd
    simp only [decide_eq_true_eq]
    rw [e2 p hp, e2 q hq, if_pos (hall p hp), if_pos (hall q hq)]
    omega
theorem idx_before {A R : List Nat} {p q : Nat} (hp : p ∈ A) (hq : q ∉ A) : (A ++ R).idxOf p < (A ++ R).idxOf q := by
  rw [List.idxOf_append, List.idxOf_append, if_pos hp, if_neg hq]
  have := List.idxOf_lt_length_of_mem hp
  omega
theorem GlOf.blk_nodup {n : Nat} {bs : List (List Nat)} {O : List Nat} {X : List Int} {U : List Bool} (h : GlOf n bs O X U) {u : Nat} (hu : u < n) : (bs.getD u []).Nodup := by
  cases e : U.getD u false
  · rw [(h.one u hu e).1]; simp
  · rcases h.two u hu e with ⟨q, _, q2, q3, _⟩ | ⟨q, _, _, _, _, _, _, q7, _⟩
    · rw [q3]; simp [Ne.symm q2]
    · rw [q7]; simp
theorem fs_at {n : Nat} {O : List Nat} {i : Nat} (hi : i < (fsts n O).length) : ∃ u, (fsts n O)[i]? = some u ∧ (fsts n O).getD i 0 = u ∧ u < n ∧ O.getD u 0 = u := by
  refine ⟨(fsts n O)[i], List.getElem?_eq_getElem hi, by simp [List.getD_eq_getElem?_getD, hi], ?_⟩
  exact fsts_mem.1 (List.getElem_mem hi)
theorem laidU_lt {n : Nat} {bs : List (List Nat)} {O : List Nat} {X : List Int} {U : List Bool} (h : GlOf n bs O X U) {pts : List Nat} (hlt : ∀ i ∈ pts, i < (fsts n O).length) : ∀ p ∈ laidU bs (fsts n O) pts, p < n := by
  intro p hp
  unfold laidU at hp
  rw [List.mem_flatten] at hp
  obtain ⟨b, hb, hpb⟩ := hp
  obtain ⟨i, hi, rfl⟩ := List.mem_map.1 hb
  obtain ⟨u, _, u2, u3, _⟩ := fs_at (hlt i hi)
  rw [u2] at hpb
  exact (h.mem u3 hpb).1
theorem laidU_nodup {n : Nat} {bs : List (List Nat)} {O : List Nat} {X : List Int} {U : List Bool} (h : GlOf n bs O X U) : ∀ (pts : List Nat), pts.Nodup → (∀ i ∈ pts, i < (fsts n O).length) → (laidU bs (fsts n O) pts).Nodup
  | [], _, _ => by simp [laidU]
  | i :: pts, hn, hlt => by
    rw [List.nodup_cons] at hn
    have e : laidU bs (fsts n O) (i :: pts) = bs.getD ((fsts n O).getD i 0) [] ++ laidU bs (fsts n O) pts := by simp [laidU]
    obtain ⟨u, u1, u2, u3, u4⟩ := fs_at (hlt i (List.mem_cons_self ..))
    rw [e, List.nodup_append, u2]
    refine ⟨h.blk_nodup u3, laidU_nodup h pts hn.2 (fun j hj => hlt j (List.mem_cons_of_mem _ hj)), ?_⟩
    intro a ha b hb hab
    subst hab
    obtain ⟨a1, a2⟩ := h.mem u3 ha
    exact hn.1 ((laidU_mem h (fun j hj => hlt j (List.mem_cons_of_mem _ hj)) a1 u1 a2).1 hb)
theorem laidU_all {n : Nat} {bs : List (List Nat)} {O : List Nat} {X : List Int} {U : List Bool} (h : GlOf n bs O X U) {pts : List Nat} (hn : pts.Nodup) (hlt : ∀ i ∈ pts, i < (fsts n O).length) : (laidU bs (fsts n O) pts).length = n ↔ pts.length = (fsts n O).length := by
  have hln := laidU_nodup h pts hn hlt
  constructor
  · intro hl
    refine Nat.le_antisymm ?_ ?_
    · have := sub_len pts (List.range (fsts n O).length) hn (fun i hi => List.mem_range.2 (hlt i hi))
      simpa using this
    · have hall : ∀ p, p < n → p ∈ laidU bs (fsts n O) pts := by
        intro p hp
        refine Classical.byContradiction fun hnp => ?_
        have := sub_len (p :: laidU bs (fsts n O) pts) (List.range n) (List.nodup_cons.2 ⟨hnp, hln⟩) (fun x hx => by
          rcases List.mem_cons.1 hx with rfl | hx
          · exact List.mem_range.2 hp
          · exact List.mem_range.2 (laidU_lt h hlt x hx))
        simp at this
        omega
      have := sub_len (List.range (fsts n O).length) pts List.nodup_range (fun i hi => by
        obtain ⟨u, u1, u2, u3, u4⟩ := fs_at (List.mem_range.1 hi)
        exact (laidU_mem h hlt u3 u1 u4).1 (hall u u3))
      simpa using this
  · intro hl
    have hmem : ∀ i, i < (fsts n O).length → i ∈ pts := by
      intro i hi
      refine Classical.byContradiction fun hni => ?_
      have := sub_len (i :: pts) (List.range (fsts n O).length) (List.nodup_cons.2 ⟨hni, hn⟩) (fun x hx => by
        rcases List.mem_cons.1 hx with rfl | hx
        · exact List.mem_range.2 hi
        · exact List.mem_range.2 (hlt x hx))
      simp at this
      omega
    refine Nat.le_antisymm ?_ ?_
    · have := sub_len (laidU bs (fsts n O) pts) (List.range n) hln (fun x hx => List.mem_range.2 (laidU_lt h hlt x hx))
      simpa using this
    · have := sub_len (List.range n) (laidU bs (fsts n O) pts) List.nodup_range (fun p hp => by
        have hp := List.mem_range.1 hp
        obtain ⟨i, hi⟩ := h.idx hp
        exact (laidU_mem h hlt hp hi rfl).2 (hmem i (List.getElem?_eq_some_iff.1 hi).1))
      simpa using this
/-- Each is laid behind those that lead to it. -/
def TopoU (ps : List (Nat × Nat)) (pts : List Nat) : Prop := ∀ A j C, pts = A ++ j :: C → ∀ i, (i, j) ∈ ps → i ∈ A
theorem TopoU.snoc {ps : List (Nat × Nat)} {pts : List Nat} (h : TopoU ps pts) {j : Nat} (hj : ∀ i, (i, j) ∈ ps → i ∈ pts) : TopoU ps (pts ++ [j]) := by
  intro A k C e i hi
  rcases List.append_eq_append_iff.1 e with ⟨a', e1, e2⟩ | ⟨c', e1, e2⟩
  · cases a' with
    | nil =>
      simp at e2
      rw [List.append_nil] at e1
      obtain ⟨rfl, rfl⟩ := e2
      rw [e1]
      exact hj i hi
    | cons x a' =>
      simp at e2
  · cases c' with
    | nil =>
      simp at e2
      rw [List.append_nil] at e1
      obtain ⟨rfl, rfl⟩ := e2
      rw [← e1]
      exact hj i hi
    | cons x c' =>
      simp at e2
      obtain ⟨rfl, e2⟩ := e2
      exact h A k c' e1 i hi
theorem split_mem {pts : List Nat} {j : Nat} (h : j ∈ pts) (hn : pts.Nodup) : ∃ A C, pts = A ++ j :: C ∧ j ∉ A := by
  obtain ⟨A, C, e⟩ := List.append_of_mem h
  refine ⟨A, C, e, ?_⟩
  rw [e, List.nodup_append] at hn
  intro hj
  exact hn.2.2 j hj j (List.mem_cons_self ..) rfl
theorem GlOf.cases {n : Nat} {bs : List (List Nat)} {O : List Nat} {X : List Int} {U : List Bool} (h : GlOf n bs O X U) {u : Nat} (hu : u < n) (hO : O.getD u 0 = u) : bs.getD u [] = [u] ∨ ∃ x, bs.getD u [] = [u, x] ∧ X.getD u 0 = (x : Int) ∧ x ≠ u ∧ x < n ∧ O.getD x 0 = u := by
  cases e : U.getD u false
  · exact Or.inl (h.one u hu e).1
  · rcases h.two u hu e with ⟨q, q1, q2, q3, q4, q5, q6, q7, q8, q9⟩ | ⟨q, q1, q2, q3, q4, q5, q6, q7, q8, q9⟩
    · exact Or.inr ⟨q, q3, q5, q2, q1, q8⟩
    · rw [q8] at hO
      exact absurd hO q2
theorem laidU_app (bs : List (List Nat)) (fs A C : List Nat) (j : Nat) : laidU bs fs (A ++ j :: C) = laidU bs fs A ++ (bs.getD (fs.getD j 0) [] ++ laidU bs fs C) := by simp [laidU]
theorem inner_before {n : Nat} {bs : List (List Nat)} {O : List Nat} {X : List Int} {U : List Bool} (h : GlOf n bs O X U) {pts : List Nat} (hn : pts.Nodup) (hlt : ∀ i ∈ pts, i < (fsts n O).length) {i u x : Nat} (hi : i ∈ pts) (hu : (fsts n O)[i]? = some u) (hb : bs.getD u [] = [u, x]) (hx : x ≠ u) (hxn : x < n) (hO : O.getD x 0 = u) : (laidU bs (fsts n O) pts).idxOf u < (laidU bs (fsts n O) pts).idxOf x := by
  obtain ⟨A, C, e, hA⟩ := split_mem hi hn
  have hltA : ∀ j ∈ A, j < (fsts n O).length := fun j hj => hlt j (by rw [e]; exact List.mem_append_left _ hj)
  have hg : (fsts n O).getD i 0 = u := by rw [List.getD_eq_getElem?_getD, hu]; rfl
  rw [e, laidU_app, hg, hb]
  have e2 : laidU bs (fsts n O) A ++ ([u, x] ++ laidU bs (fsts n O) C) = (laidU bs (fsts n O) A ++ [u]) ++ (x :: laidU bs (fsts n O) C) := by simp
  rw [e2]
  refine idx_before (by simp) ?_
  intro hm
  rcases List.mem_append.1 hm with hm | hm
  · exact hA ((laidU_mem h hltA hxn hu hO).1 hm)
  · simp at hm
    exact hx hm
theorem lin_true {L : List Nat} {bs : List (List Nat)} {O : List Nat} {X : List Int} {U : List Bool} (h : GlOf L.length bs O X U) {F : Nat → Nat → Bool} (hps : ∀ p q, (p, q) ∈ pairsL L ↔ p < L.length ∧ q < L.length ∧ F p q = true) (hgood : ∀ u, u < L.length → SmU L.length F O X u u = false) {pts : List Nat} (hn : pts.Nodup) (hlt : ∀ i ∈ pts, i < (fsts L.length O).length) (hl : pts.length = (fsts L.length O).length) {ps' : List (Nat × Nat)} (hps' : ∀ i j, i < (fsts L.length O).length → j < (fsts L.length O).length → BF (blkK L.length (bs.filter (fun b => !b.isEmpty)) (bs.filter (fun b => !b.isEmpty)).length) (pairsL L) i j = true → (i, j) ∈ ps') (hT : TopoU ps' pts) : linB L (toI (laidU bs (fsts L.length O) pts)) = true := by
  have hln := laidU_nodup h pts hn hlt
  have hll := (laidU_all h hn hlt).2 hl
  have hpm : ∀ i, i < (fsts L.length O).length → i ∈ pts := by
    intro i hi
    refine Classical.byContradiction fun hni => ?_
    have := sub_len (i :: pts) (List.range (fsts L.length O).length) (List.nodup_cons.2 ⟨hni, hn⟩) (fun x hx => by
      rcases List.mem_cons.1 hx with rfl | hx
      · exact List.mem_range.2 hi
      · exact List.mem_range.2 (hlt x hx))
    simp at this
    omega
  refine (lin_iff hps hln (laidU_lt h hlt) hll (fun p hp => ?_)).2 ?_
  · obtain ⟨i, hi⟩ := h.idx hp
    exact (laidU_mem h hlt hp hi rfl).2 (hpm i (List.getElem?_eq_some_iff.1 hi).1)
  · intro p q hp hq hF
    obtain ⟨i, hi⟩ := h.idx hp
    obtain ⟨j, hj⟩ := h.idx hq
    have hil := (List.getElem?_eq_some_iff.1 hi).1
    have hjl := (List.getElem?_eq_some_iff.1 hj).1
    by_cases hO : O.getD p 0 = O.getD q 0
    · have hX : X.getD p 0 = (q : Int) := by
        refine Classical.byContradiction fun hne => ?_
        have hg := hgood (O.getD p 0) (h.unit hp).1
        rw [SmU_iff.2 ⟨p, q, hp, hq, hF, hne, rfl, hO.symm⟩] at hg
        cases hg
      obtain ⟨e1, e2, e3, e4, e5⟩ := h.nx hp hX
      rw [e1] at hi
      exact inner_before h hn hlt (hpm i hil) hi e5 e3 hq e2
    · have hB := (BF_iff h hps hi hj).2 ⟨hO, p, q, hp, hq, hF, rfl, rfl⟩
      obtain ⟨A, C, e, hA⟩ := split_mem (hpm j hjl) hn
      have hltA : ∀ k ∈ A, k < (fsts L.length O).length := fun k hk => hlt k (by rw [e]; exact List.mem_append_left _ hk)
      have hiA := hT A j C e i (hps' i j hil hjl hB)
      rw [e, laidU_app]
      exact idx_before ((laidU_mem h hltA hp hi rfl).2 hiA) (fun hm => hA ((laidU_mem h hltA hq hj rfl).1 hm))
theorem lin_false {L : List Nat} {bs : List (List Nat)} {O : List Nat} {X : List Int} {U : List Bool} (h : GlOf L.length bs O X U) {F : Nat → Nat → Bool} (hps : ∀ p q, (p, q) ∈ pairsL L ↔ p < L.length ∧ q < L.length ∧ F p q = true) {u : Nat} (hbad : SmU L.length F O X u u = true) {pts : List Nat} (hn : pts.Nodup) (hlt : ∀ i ∈ pts, i < (fsts L.length O).length) (hl : pts.length = (fsts L.length O).length) : linB L (toI (laidU bs (fsts L.length O) pts)) = false := by
  have hln := laidU_nodup h pts hn hlt
  have hll := (laidU_all h hn hlt).2 hl
  have hpm : ∀ i, i < (fsts L.length O).length → i ∈ pts := by
    intro i hi
    refine Classical.byContradiction fun hni => ?_
    have := sub_len (i :: pts) (List.range (fsts L.length O).length) (List.nodup_cons.2 ⟨hni, hn⟩) (fun x hx => by
      rcases List.mem_cons.1 hx with rfl | hx
      · exact List.mem_range.2 hi
      · exact List.mem_range.2 (hlt x hx))
    simp at this
    omega
  rw [Bool.eq_false_iff]
  intro hlin
  have key := (lin_iff hps hln (laidU_lt h hlt) hll (fun p hp => by
    obtain ⟨i, hi⟩ := h.idx hp
    exact (laidU_mem h hlt hp hi rfl).2 (hpm i (List.getElem?_eq_some_iff.1 hi).1))).1 hlin
  obtain ⟨p, q, hp, hq, hF, hX, hOp, hOq⟩ := SmU_iff.1 hbad
  have h1 := key p q hp hq hF
  obtain ⟨u1, u2, u3, _⟩ := h.unit hp
  rw [hOp] at u1 u2 u3
  have u4 := (h.unit hq).2.2.1
  rw [hOq] at u4
  obtain ⟨i, hi⟩ := h.idx hp
  rw [hOp] at hi
  have hil := (List.getElem?_eq_some_iff.1 hi).1
  rcases h.cases u1 u2 with hb | ⟨x, hb, hx1, hx2, hx3, hx4⟩
  · rw [hb] at u3 u4
    simp at u3 u4
    subst u3
    subst u4
    omega
  · rw [hb] at u3 u4
    simp at u3 u4
    have hin := inner_before h hn hlt (hpm i hil) hi hb hx2 hx3 hx4
    rcases u3 with rfl | rfl
    · rcases u4 with rfl | rfl
      · omega
      · exact hX hx1
    · rcases u4 with rfl | rfl
      · omega
      · omega
theorem fz_zero {n : Nat} {ps : List (Nat × Nat)} {pts : List Nat} {p : Nat} (h : fz (wAll n ps pts) = (p : Int)) : p < n ∧ wAt ps pts p = 0 := by
  obtain ⟨q, h1, h2, h3⟩ := fz_range (l := wAll n ps pts) (by omega)
  obtain rfl : q = p := by omega
  rw [wAll_length] at h2
  rw [wAll_at _ _ h2] at h3
  exact ⟨h2, Option.some.inj h3⟩
theorem wAt_zero {ps : List (Nat × Nat)} {pts : List Nat} {p : Nat} (h : wAt ps pts p = 0) : p ∉ pts ∧ ∀ i, (i, p) ∈ ps → i ∈ pts := by
  refine ⟨fun hm => wAt_pos hm h, fun i hi => ?_⟩
  refine Classical.byContradiction fun hn => ?_
  unfold wAt at h
  have hm : (i, p) ∈ ps.filter (fun x => x.2 == p && !pts.contains x.1) := by
    rw [List.mem_filter]
    refine ⟨hi, ?_⟩
    simp [hn]
  have := List.length_pos_of_mem hm
  split at h <;> omega
theorem srt_good (n : Nat) (ps : List (Nat × Nat)) : ∀ (f : Nat) (pts : List Nat), pts.Nodup → (∀ i ∈ pts, i < n) → TopoU ps pts → (srt n ps f pts).Nodup ∧ (∀ i ∈ srt n ps f pts, i < n) ∧ TopoU ps (srt n ps f pts)
  | 0, pts, h1, h2, h3 => ⟨h1, h2, h3⟩
  | f + 1, pts, h1, h2, h3 => by
    unfold srt
    split
    · rename_i hf
      obtain ⟨p, e, _⟩ := fz_range hf
      obtain ⟨hp, hz⟩ := fz_zero e
      obtain ⟨hn, ht⟩ := wAt_zero hz
      rw [e, Int.toNat_natCast]
      refine srt_good n ps f (pts ++ [p]) ?_ ?_ (h3.snoc ht)
      · rw [List.nodup_append]
        refine ⟨h1, by simp, ?_⟩
        intro a ha b hb hab
        simp at hb
        subst hb
        subst hab
        exact hn ha
      · intro i hi
        rcases List.mem_append.1 hi with hi | hi
        · exact h2 i hi
        · simp at hi
          omega
    · exact ⟨h1, h2, h3⟩
theorem sortOf_good (L : List Nat) : (sortOf L).Nodup ∧ (∀ i ∈ sortOf L, i < L.length) ∧ TopoU (pairsL L) (sortOf L) :=
  srt_good _ _ _ _ List.nodup_nil (fun i hi => absurd hi (by simp)) (fun A j C e => absurd e (by simp))
/-- What the program lays, told by the units. -/
theorem sb_laid {L : List Nat} {bs : List (List Nat)} {O : List Nat} {X : List Int} {U : List Bool} (h : GlOf L.length bs O X U) : (sbOf L (bs.filter (fun b => !b.isEmpty))).flatten = laidU bs (fsts L.length O) (sortOf (betw L (bs.filter (fun b => !b.isEmpty)))) := by
  unfold sbOf laidU
  have hlen : (betw L (bs.filter (fun b => !b.isEmpty))).length = (fsts L.length O).length := by rw [betw_length, h.blocks, List.length_map]
  have hb := h.blocks
  congr 1
  apply List.map_congr_left
  intro i hi
  have hil := (sortOf_good _).2.1 i hi
  rw [hlen] at hil
  rw [hb]
  simp [List.getD_eq_getElem?_getD, hil]
theorem pairs_of {L : List Nat} {F : Nat → Nat → Bool} (hT : TwO L.length F L) (hn : L.length ≤ 256) (hlow : ∀ R ∈ L, R < 2 ^ L.length) (p q : Nat) : (p, q) ∈ pairsL L ↔ p < L.length ∧ q < L.length ∧ F p q = true := by
  constructor
  · intro hm
    have hl := pairsL_lt hlow _ hm
    exact ⟨hl.1, hl.2, (hT.pairs hn hlow hl.1 hl.2).2 hm⟩
  · rintro ⟨hp, hq, hF⟩
    exact (hT.pairs hn hlow hp hq).1 hF
theorem putP_lowU {A : List Nat} (h : ∀ R ∈ A, R < 2 ^ A.length) (a b : Int) (v : Bool) : ∀ R ∈ putP A a b v, R < 2 ^ A.length := by
  unfold putP
  split
  · rename_i hin
    rw [Bool.and_eq_true] at hin
    have i2 := of_decide_eq_true hin.2
    intro R hR
    rcases List.mem_or_eq_of_mem_set hR with hR | rfl
    · exact h R hR
    · exact setB_lt (gr_lt h) (by omega)
  · exact h
theorem btK_low (B : List Int) (m : Nat) (ps : List (Nat × Nat)) : ∀ R ∈ btK B m ps, R < 2 ^ m := by
  have key : ∀ k, k ≤ ps.length → ∀ R ∈ btK B m (ps.take k), R < 2 ^ m := by
    intro k
    induction k with
    | zero =>
      intro _ R hR
      simp [btK] at hR
      rw [hR.2]
      exact Nat.two_pow_pos _
    | succ k ih =>
      intro hk
      have ih := ih (by omega)
      have e : ps.take (k + 1) = ps.take k ++ [ps[k]] := by rw [List.take_append_getElem]
      rw [e, btK_snoc]
      split
      · exact ih
      · have hl := btK_length B m (ps.take k)
        have := putP_lowU (A := btK B m (ps.take k)) (by rw [hl]; exact ih) (B.getD ps[k].1 0) (B.getD ps[k].2 0) true
        rw [hl] at this
        exact this
  have := key ps.length (Nat.le_refl _)
  rw [List.take_length] at this
  exact this
theorem betw_low (L : List Nat) (bs : List (List Nat)) : ∀ R ∈ betw L bs, R < 2 ^ (betw L bs).length := by
  rw [betw_length]
  exact btK_low _ _ _
theorem betw_two (L : List Nat) (bs : List (List Nat)) : TwO (betw L bs).length (BF (blkK L.length bs bs.length) (pairsL L)) (betw L bs) := by
  rw [betw_length]
  exact twO_btK _ _ _
/-- What the program's Glue answers, told by the units. -/
theorem glue_good {L : List Nat} {l : List (Int × Int)} {bs : List (List Nat)} {O : List Nat} {X : List Int} {U : List Bool} {F : Nat → Nat → Bool} (hgl : gluF L.length l (glInit L.length) = some bs) (h : GlOf L.length bs O X U) (hT : TwO L.length F L) (hn : L.length ≤ 256) (hlow : ∀ R ∈ L, R < 2 ^ L.length) (hgood : ∀ u, u < L.length → SmU L.length F O X u u = false) :
    glueF L l = if (sortOf (betw L (bs.filter (fun b => !b.isEmpty)))).length = (fsts L.length O).length then (laidU bs (fsts L.length O) (sortOf (betw L (bs.filter (fun b => !b.isEmpty)))), 0) else ([], 3) := by
  have hps := fun p q => pairs_of hT hn hlow p q
  have hbl : (bs.filter (fun b => !b.isEmpty)).length = (fsts L.length O).length := by rw [h.blocks, List.length_map]
  have hfl : (fsts L.length O).length ≤ L.length := by
    have := List.length_filter_le (fun p => O.getD p 0 == p) (List.range L.length)
    rw [List.length_range] at this
    exact this
  have hglB : glB L l = some (bs.filter (fun b => !b.isEmpty)) := by unfold glB; rw [hgl]; rfl
  unfold glueF
  rw [hglB]
  show (if (sortOf (betw L (bs.filter (fun b => !b.isEmpty)))).length = (bs.filter (fun b => !b.isEmpty)).length then _ else _) = _
  rw [hbl]
  by_cases hl : (sortOf (betw L (bs.filter (fun b => !b.isEmpty)))).length = (fsts L.length O).length
  · rw [if_pos hl, if_pos hl, sb_laid h]
    obtain ⟨g1, g2, g3⟩ := sortOf_good (betw L (bs.filter (fun b => !b.isEmpty)))
    rw [betw_length, hbl] at g2
    have := lin_true h hps hgood g1 g2 hl (ps' := pairsL (betw L (bs.filter (fun b => !b.isEmpty)))) (fun i j hi hj hB => by
      have hbw := betw_two L (bs.filter (fun b => !b.isEmpty))
      have hle : (betw L (bs.filter (fun b => !b.isEmpty))).length = (fsts L.length O).length := by rw [betw_length, hbl]
      exact (hbw.pairs (by omega) (betw_low _ _) (by omega) (by omega)).1 hB) g3
    rw [if_pos this]
  · rw [if_neg hl, if_neg hl]
theorem glue_bad {L : List Nat} {l : List (Int × Int)} {bs : List (List Nat)} {O : List Nat} {X : List Int} {U : List Bool} {F : Nat → Nat → Bool} (hgl : gluF L.length l (glInit L.length) = some bs) (h : GlOf L.length bs O X U) (hT : TwO L.length F L) (hn : L.length ≤ 256) (hlow : ∀ R ∈ L, R < 2 ^ L.length) {u : Nat} (hbad : SmU L.length F O X u u = true) : glueF L l = ([], 3) := by
  have hps := fun p q => pairs_of hT hn hlow p q
  have hbl : (bs.filter (fun b => !b.isEmpty)).length = (fsts L.length O).length := by rw [h.blocks, List.length_map]
  have hglB : glB L l = some (bs.filter (fun b => !b.isEmpty)) := by unfold glB; rw [hgl]; rfl
  unfold glueF
  rw [hglB]
  show (if (sortOf (betw L (bs.filter (fun b => !b.isEmpty)))).length = (bs.filter (fun b => !b.isEmpty)).length then _ else _) = _
  rw [hbl]
  by_cases hl : (sortOf (betw L (bs.filter (fun b => !b.isEmpty)))).length = (fsts L.length O).length
  · obtain ⟨g1, g2, g3⟩ := sortOf_good (betw L (bs.filter (fun b => !b.isEmpty)))
    rw [betw_length, hbl] at g2
    have := lin_false h hps hbad g1 g2 hl
    rw [if_pos hl, sb_laid h, this, if_neg Bool.false_ne_true]
  · rw [if_neg hl]
theorem GlOf.cases2 {n : Nat} {bs : List (List Nat)} {O : List Nat} {X : List Int} {U : List Bool} (h : GlOf n bs O X U) {u : Nat} (hu : u < n) (hO : O.getD u 0 = u) : (bs.getD u [] = [u] ∧ X.getD u 0 = -1) ∨ ∃ x, bs.getD u [] = [u, x] ∧ X.getD u 0 = (x : Int) ∧ x ≠ u ∧ x < n ∧ O.getD x 0 = u := by
  cases e : U.getD u false
  · have := h.one u hu e
    exact Or.inl ⟨this.1, this.2.2⟩
  · rcases h.two u hu e with ⟨q, q1, q2, q3, q4, q5, q6, q7, q8, q9⟩ | ⟨q, q1, q2, q3, q4, q5, q6, q7, q8, q9⟩
    · exact Or.inr ⟨q, q3, q5, q2, q1, q8⟩
    · rw [q8] at hO
      exact absurd hO q2
/-- The reference is stuck: so is the program. -/
theorem glue_stuck {L : List Nat} {l : List (Int × Int)} {bs : List (List Nat)} {O : List Nat} {X : List Int} {U : List Bool} {F : Nat → Nat → Bool} (hgl : gluF L.length l (glInit L.length) = some bs) (h : GlOf L.length bs O X U) (hT : TwO L.length F L) (hn : L.length ≤ 256) (hlow : ∀ R ∈ L, R < 2 ^ L.length) {pts : List Nat} (hsr : (∀ u, u < L.length → SmU L.length F O X u u = false) → SrtAt (betw L (bs.filter (fun b => !b.isEmpty))) pts.length pts) (hlt : pts.length < (fsts L.length O).length)
    (hfz : (∀ u, u < L.length → SmU L.length F O X u u = false) → fz (wAll (betw L (bs.filter (fun b => !b.isEmpty))).length (pairsL (betw L (bs.filter (fun b => !b.isEmpty)))) pts) < 0) : glueF L l = ([], 3) := by
  by_cases hgood : ∀ u, u < L.length → SmU L.length F O X u u = false
  · have hbl : (betw L (bs.filter (fun b => !b.isEmpty))).length = (fsts L.length O).length := by rw [betw_length, h.blocks, List.length_map]
    have hst := (hsr hgood).stuck (by omega) (hfz hgood)
    rw [glue_good hgl h hT hn hlow hgood, if_neg (by rw [← hbl]; exact hst)]
  · obtain ⟨u, hu⟩ := Classical.not_forall.1 hgood
    have hu2 : u < L.length ∧ ¬ SmU L.length F O X u u = false := Classical.not_imp.1 hu
    exact glue_bad hgl h hT hn hlow (by simpa using hu2.2)
/-- The reference has laid all: so has the program. -/
theorem glue_full {L : List Nat} {l : List (Int × Int)} {bs : List (List Nat)} {O : List Nat} {X : List Int} {U : List Bool} {F : Nat → Nat → Bool} (hgl : gluF L.length l (glInit L.length) = some bs) (h : GlOf L.length bs O X U) (hT : TwO L.length F L) (hn : L.length ≤ 256) (hlow : ∀ R ∈ L, R < 2 ^ L.length) {pts : List Nat} (hnd : pts.Nodup) (hlt : ∀ i ∈ pts, i < (fsts L.length O).length) (hok : ∀ i ∈ pts, ∀ u, (fsts L.length O)[i]? = some u → SmU L.length F O X u u = false) (hsr : (∀ u, u < L.length → SmU L.length F O X u u = false) → SrtAt (betw L (bs.filter (fun b => !b.isEmpty))) pts.length pts) (hl : L.length ≤ (laidU bs (fsts L.length O) pts).length) : glueF L l = (laidU bs (fsts L.length O) pts, 0) := by
  have hle := sub_len (laidU bs (fsts L.length O) pts) (List.range L.length) (laidU_nodup h pts hnd hlt) (fun x hx => List.mem_range.2 (laidU_lt h hlt x hx))
  rw [List.length_range] at hle
  have hpl := (laidU_all h hnd hlt).1 (by omega)
  have hbl : (betw L (bs.filter (fun b => !b.isEmpty))).length = (fsts L.length O).length := by rw [betw_length, h.blocks, List.length_map]
  have hgood : ∀ u, u < L.length → SmU L.length F O X u u = false := by
    intro u hu
    rw [Bool.eq_false_iff]
    intro hbad
    obtain ⟨p, q, hp, hq, _, _, hOp, _⟩ := SmU_iff.1 hbad
    obtain ⟨i, hi⟩ := h.idx hp
    rw [hOp] at hi
    have hil := (List.getElem?_eq_some_iff.1 hi).1
    have him : i ∈ pts := by
      refine Classical.byContradiction fun hni => ?_
      have := sub_len (i :: pts) (List.range (fsts L.length O).length) (List.nodup_cons.2 ⟨hni, hnd⟩) (fun x hx => by
        rcases List.mem_cons.1 hx with rfl | hx
        · exact List.mem_range.2 hil
        · exact List.mem_range.2 (hlt x hx))
      simp at this
      omega
    rw [hok i him u hi] at hbad
    cases hbad
  have hs := hsr hgood
  rw [hpl, ← hbl] at hs
  rw [glue_good hgl h hT hn hlow hgood, hs.full, if_pos hpl]
/-- The least unit that may come, as the reference looks for it. -/
def LeastP (P : Nat → Bool) (n k : Nat) (nx : Int) : Prop := (nx = -1 ∧ ∀ q, k ≤ q → q < n → P q = false) ∨ ∃ p : Nat, nx = (p : Int) ∧ k ≤ p ∧ p < n ∧ P p = true ∧ ∀ q, k ≤ q → q < p → P q = false
theorem LeastP.no {P : Nat → Bool} {n k : Nat} {nx : Int} (h : LeastP P n (k + 1) nx) (hf : P k = false) : LeastP P n k nx := by
  rcases h with ⟨rfl, h⟩ | ⟨p, rfl, h1, h2, h3, h4⟩
  · refine .inl ⟨rfl, fun q hq hn => ?_⟩
    by_cases e : q = k
    · subst e; exact hf
    · exact h q (by omega) hn
  · refine .inr ⟨p, rfl, by omega, h2, h3, fun q hq hp => ?_⟩
    by_cases e : q = k
    · subst e; exact hf
    · exact h4 q (by omega) hp
theorem LeastP.yes {P : Nat → Bool} {n k : Nat} (hk : k < n) (hf : P k = true) : LeastP P n k (k : Int) := .inr ⟨k, rfl, Nat.le_refl _, hk, hf, fun q h1 h2 => by omega⟩
theorem LeastP.start (P : Nat → Bool) (n : Nat) : LeastP P n n (-1) := .inl ⟨rfl, fun q h1 h2 => by omega⟩
/-- The reference's choice is the program's. -/
theorem least_same {L : List Nat} {bs : List (List Nat)} {O : List Nat} {X : List Int} {U : List Bool} {F : Nat → Nat → Bool} (h : GlOf L.length bs O X U) (hT : TwO L.length F L) (hn : L.length ≤ 256) (hlow : ∀ R ∈ L, R < 2 ^ L.length) (hgood : ∀ u, u < L.length → SmU L.length F O X u u = false) {pts : List Nat} (hlt : ∀ i ∈ pts, i < (fsts L.length O).length) {nx : Int}
    (hl : LeastP (fun p => O.getD p 0 == p && freeF L.length (SmU L.length F O X) (doneL L.length (laidU bs (fsts L.length O) pts)) p) L.length 0 nx) :
    (nx = -1 ∧ fz (wAll (betw L (bs.filter (fun b => !b.isEmpty))).length (pairsL (betw L (bs.filter (fun b => !b.isEmpty)))) pts) < 0) ∨ (∃ (j u : Nat), nx = (u : Int) ∧ (fsts L.length O)[j]? = some u ∧ fz (wAll (betw L (bs.filter (fun b => !b.isEmpty))).length (pairsL (betw L (bs.filter (fun b => !b.isEmpty)))) pts) = (j : Int)) := by
  have hps := fun p q => pairs_of hT hn hlow p q
  have hbl : (betw L (bs.filter (fun b => !b.isEmpty))).length = (fsts L.length O).length := by rw [betw_length, h.blocks, List.length_map]
  have hfl : (fsts L.length O).length ≤ L.length := by
    have := List.length_filter_le (fun p => O.getD p 0 == p) (List.range L.length)
    rw [List.length_range] at this
    exact this
  have hbw := betw_two L (bs.filter (fun b => !b.isEmpty))
  have hfree : ∀ j u, (fsts L.length O)[j]? = some u → freeF L.length (SmU L.length F O X) (doneL L.length (laidU bs (fsts L.length O) pts)) u = freeF (betw L (bs.filter (fun b => !b.isEmpty))).length (BF (blkK L.length (bs.filter (fun b => !b.isEmpty)) (bs.filter (fun b => !b.isEmpty)).length) (pairsL L)) (doneL (betw L (bs.filter (fun b => !b.isEmpty))).length pts) j := by
    intro j u hj
    rw [hbl]
    exact free_same h hps hlt hj (hgood u (fsts_mem.1 (List.mem_of_getElem? hj)).1)
  rcases hl with ⟨rfl, h1⟩ | ⟨u, rfl, _, hu, h3, h4⟩
  · refine Or.inl ⟨rfl, ?_⟩
    have : LeastF (betw L (bs.filter (fun b => !b.isEmpty))).length (BF (blkK L.length (bs.filter (fun b => !b.isEmpty)) (bs.filter (fun b => !b.isEmpty)).length) (pairsL L)) (doneL (betw L (bs.filter (fun b => !b.isEmpty))).length pts) 0 (-1) := by
      refine .inl ⟨rfl, fun q _ hq => ?_⟩
      obtain ⟨u, u1, u2, u3, u4⟩ := fs_at (n := L.length) (O := O) (i := q) (by omega)
      have := h1 u (Nat.zero_le _) u3
      simp only [] at this
      rw [u4, beq_self_eq_true, Bool.true_and, hfree q u u1] at this
      exact this
    have e := LeastF.fz hbw (by omega) (betw_low _ _) this
    omega
  · simp only [] at h3 h4
    rw [Bool.and_eq_true, beq_iff_eq] at h3
    obtain ⟨j, hj⟩ := List.getElem?_of_mem (fsts_mem.2 ⟨hu, h3.1⟩)
    have hjl := (List.getElem?_eq_some_iff.1 hj).1
    refine Or.inr ⟨j, u, rfl, hj, ?_⟩
    have : LeastF (betw L (bs.filter (fun b => !b.isEmpty))).length (BF (blkK L.length (bs.filter (fun b => !b.isEmpty)) (bs.filter (fun b => !b.isEmpty)).length) (pairsL L)) (doneL (betw L (bs.filter (fun b => !b.isEmpty))).length pts) 0 (j : Int) := by
      refine .inr ⟨j, rfl, Nat.zero_le _, by omega, by rw [← hfree j u hj]; exact h3.2, fun q _ hq => ?_⟩
      obtain ⟨u', u1, u2, u3, u4⟩ := fs_at (n := L.length) (O := O) (i := q) (by omega)
      have hlt' := (rise_lt (fsts_rise L.length O) u1 hj).1 hq
      have := h4 u' (Nat.zero_le _) hlt'
      rw [u4, beq_self_eq_true, Bool.true_and, hfree q u' u1] at this
      exact this
    exact (LeastF.fz hbw (by omega) (betw_low _ _) this).symm
end Go.Proofs.YtmmgdeoballhpaaDoor
/- The lists of points that lead to one another: their maths. -/
namespace Go.Proofs.YtmmgdeoballhpaaDoor
open Go.RowKit Go.Shelf Sx

/-- The least point of a point's list. -/
def leastE (E : Nat → Nat → Bool) (p : Nat) : Nat := ((List.range p).find? (fun q => E p q)).getD p
theorem leastE_cases (E : Nat → Nat → Bool) (p : Nat) : (leastE E p = p ∧ ∀ q, q < p → E p q = false) ∨ (leastE E p < p ∧ E p (leastE E p) = true ∧ ∀ q, q < leastE E p → E p q = false) := by
  unfold leastE
  cases h : (List.range p).find? (fun q => E p q) with
  | none =>
    left
    refine ⟨rfl, fun q hq => ?_⟩
    have := List.find?_eq_none.1 h q (List.mem_range.2 hq)
    simpa using this
  | some u =>
    right
    have h1 := List.find?_some h
    have h2 := List.mem_of_find?_eq_some h
    refine ⟨List.mem_range.1 h2, h1, fun q hq => ?_⟩
    obtain ⟨_, as', bs', e, hn⟩ := List.find?_eq_some_iff_append.1 h
    have hu : as'.length = u := by
      have hl : as'.length < (List.range p).length := by rw [e]; simp
      have h3 : (List.range p)[as'.length]? = some u := by rw [e]; simp
      rw [List.getElem?_range (by simpa using hl)] at h3
      exact Option.some.inj h3
    have hq2 : (List.range p)[q]? = some q := List.getElem?_range (by have := List.mem_range.1 h2; simp at hq; omega)
    have hq' : q < u := hq
    have : q ∈ as' := by
      rw [e, List.getElem?_append_left (by omega)] at hq2
      exact List.mem_of_getElem? hq2
    have := hn q this
    simpa using this
theorem leastE_le (E : Nat → Nat → Bool) (p : Nat) : leastE E p ≤ p := by
  rcases leastE_cases E p with ⟨h, _⟩ | ⟨h, _⟩ <;> omega
theorem leastE_of {E : Nat → Nat → Bool} {p q : Nat} (hq : q < p) (h : E p q = true) : leastE E p ≤ q := by
  rcases leastE_cases E p with ⟨_, h1⟩ | ⟨_, _, h1⟩
  · rw [h1 q hq] at h; cases h
  · apply Nat.le_of_not_lt
    intro hlt
    rw [h1 q hlt] at h; cases h
/-- What is alike: both ways, and so on. -/
structure Eqv (n : Nat) (E : Nat → Nat → Bool) : Prop where
  symm : ∀ p q, p < n → q < n → E p q = true → E q p = true
  trans : ∀ p q r, p < n → q < n → r < n → E p q = true → E q r = true → E p r = true
theorem leastE_idem {n : Nat} {E : Nat → Nat → Bool} (h : Eqv n E) {p : Nat} (hp : p < n) : leastE E (leastE E p) = leastE E p := by
  rcases leastE_cases E p with ⟨e, _⟩ | ⟨h1, h2, h3⟩
  · rw [e, e]
  · generalize leastE E p = u at *
    rcases leastE_cases E u with ⟨e, _⟩ | ⟨k1, k2, _⟩
    · exact e
    · have := h.trans p u (leastE E u) hp (by omega) (by omega) h2 k2
      rw [h3 _ k1] at this
      cases this
theorem leastE_same {n : Nat} {E : Nat → Nat → Bool} (h : Eqv n E) {p q : Nat} (hp : p < n) (hq : q < n) : leastE E p = leastE E q ↔ p = q ∨ E p q = true := by
  have self : ∀ p, p < n → leastE E p = p ∨ E p (leastE E p) = true := fun p hp => by
    rcases leastE_cases E p with ⟨e, _⟩ | ⟨_, h2, _⟩
    · exact .inl e
    · exact .inr h2
  have le : ∀ p q, p < n → q < n → E p q = true → leastE E p ≤ leastE E q := by
    intro p q hp hq hE
    have hv := leastE_le E q
    have hE2 : E p (leastE E q) = true := by
      rcases self q hq with e | e
      · rw [e]; exact hE
      · exact h.trans p q _ hp hq (by omega) hE e
    by_cases hlt : leastE E q < p
    · exact leastE_of hlt hE2
    · have := leastE_le E p
      omega
  constructor
  · intro e
    rcases self p hp with e1 | e1
    · rcases self q hq with e2 | e2
      · left; rw [← e1, e, e2]
      · right
        rw [← e, e1] at e2
        exact h.symm _ _ hq hp e2
    · have hu : leastE E p < n := by have := leastE_le E p; omega
      rcases self q hq with e2 | e2
      · right
        rw [e, e2] at e1
        exact e1
      · right
        rw [← e] at e2
        exact h.trans _ _ _ hp hu hq e1 (h.symm _ _ hq hu e2)
  · rintro (rfl | e)
    · rfl
    · exact Nat.le_antisymm (le p q hp hq e) (le q p hq hp (h.symm _ _ hp hq e))
/-- The least points below k, rising; the lists of the points below k. -/
def fstK (E : Nat → Nat → Bool) (k : Nat) : List Nat := (List.range k).filter (fun p => leastE E p == p)
def clK (E : Nat → Nat → Bool) (k u : Nat) : List Nat := (List.range k).filter (fun p => leastE E p == u)
def clsK (E : Nat → Nat → Bool) (k : Nat) : List (List Nat) := (fstK E k).map (clK E k)
theorem fstK_mem {E : Nat → Nat → Bool} {k u : Nat} : u ∈ fstK E k ↔ u < k ∧ leastE E u = u := by simp [fstK]
theorem clK_mem {E : Nat → Nat → Bool} {k u p : Nat} : p ∈ clK E k u ↔ p < k ∧ leastE E p = u := by simp [clK]
theorem fstK_rise (E : Nat → Nat → Bool) (k : Nat) : (fstK E k).Pairwise (· < ·) := List.Pairwise.filter _ List.pairwise_lt_range
theorem clK_succ_no {E : Nat → Nat → Bool} {k u : Nat} (h : leastE E k ≠ u) : clK E (k + 1) u = clK E k u := by
  unfold clK
  rw [List.range_succ, List.filter_append]
  have : (leastE E k == u) = false := by simpa using h
  simp [this]
theorem clK_succ_yes {E : Nat → Nat → Bool} {k u : Nat} (h : leastE E k = u) : clK E (k + 1) u = clK E k u ++ [k] := by
  unfold clK
  rw [List.range_succ, List.filter_append]
  simp [h]
theorem clK_new (E : Nat → Nat → Bool) (k : Nat) : clK E k k = [] := by
  unfold clK
  rw [List.filter_eq_nil_iff]
  intro p hp hc
  have := List.mem_range.1 hp
  have h2 := leastE_le E p
  simp at hc
  omega
theorem cls_new {E : Nat → Nat → Bool} {k : Nat} (h : leastE E k = k) : clsK E (k + 1) = clsK E k ++ [[k]] := by
  unfold clsK
  have e : fstK E (k + 1) = fstK E k ++ [k] := by
    unfold fstK
    rw [List.range_succ, List.filter_append]
    simp [h]
  rw [e, List.map_append]
  congr 1
  · apply List.map_congr_left
    intro u hu
    have := fstK_mem.1 hu
    exact clK_succ_no (by omega)
  · simp [clK_succ_yes h, clK_new]
theorem fst_inj {l : List Nat} (h : l.Pairwise (· < ·)) {i j a : Nat} (hi : l[i]? = some a) (hj : l[j]? = some a) : i = j := by
  obtain ⟨h1, e1⟩ := List.getElem?_eq_some_iff.1 hi
  obtain ⟨h2, e2⟩ := List.getElem?_eq_some_iff.1 hj
  have k := List.pairwise_iff_getElem.1 h
  rcases Nat.lt_trichotomy i j with e | e | e
  · have := k i j h1 h2 e; omega
  · exact e
  · have := k j i h2 h1 e; omega
theorem cls_in {E : Nat → Nat → Bool} {k u i : Nat} (h : leastE E k = u) (hu : u < k) (hi : (fstK E k)[i]? = some u) : clsK E (k + 1) = (clsK E k).set i (clK E k u ++ [k]) := by
  have e : fstK E (k + 1) = fstK E k := by
    unfold fstK
    rw [List.range_succ, List.filter_append]
    have : (leastE E k == k) = false := by rw [h]; simp; omega
    simp [this]
  unfold clsK
  rw [e]
  apply List.ext_getElem?
  intro j
  rw [List.getElem?_set]
  by_cases hj : i = j
  · subst hj
    rw [if_pos rfl, List.getElem?_map, hi]
    have : i < ((fstK E k).map (clK E k)).length := by
      rw [List.length_map]; exact (List.getElem?_eq_some_iff.1 hi).1
    rw [if_pos this]
    simp [clK_succ_yes h]
  · rw [if_neg hj, List.getElem?_map, List.getElem?_map]
    cases hx : (fstK E k)[j]? with
    | none => rfl
    | some v =>
      simp only [Option.map_some]
      congr 1
      apply clK_succ_no
      intro e2
      rw [h] at e2
      subst e2
      exact hj (fst_inj (fstK_rise E k) hi hx)
/-- A list begins with its least point. -/
theorem clK_head {E : Nat → Nat → Bool} {k u : Nat} (h : u ∈ fstK E k) : ∃ tl, clK E k u = u :: tl := by
  obtain ⟨h1, h2⟩ := fstK_mem.1 h
  have hm : u ∈ clK E k u := clK_mem.2 ⟨h1, h2⟩
  have hr : (clK E k u).Pairwise (· < ·) := List.Pairwise.filter _ List.pairwise_lt_range
  cases hc : clK E k u with
  | nil => rw [hc] at hm; cases hm
  | cons x tl =>
    rw [hc] at hm hr
    have hx : x ∈ clK E k u := by rw [hc]; exact List.mem_cons_self ..
    have hx2 := (clK_mem.1 hx).2
    have := leastE_le E x
    rcases List.mem_cons.1 hm with rfl | hm
    · exact ⟨tl, rfl⟩
    · have := (List.pairwise_cons.1 hr).1 u hm
      omega
/-- None of the lists takes k: it is the least point of its own. -/
theorem scan_none {n : Nat} {E : Nat → Nat → Bool} (h : Eqv n E) {k : Nat} (hk : k < n) (hs : ∀ (i u : Nat), (fstK E k)[i]? = some u → E u k = false) : leastE E k = k := by
  rcases leastE_cases E k with ⟨e, _⟩ | ⟨h1, h2, _⟩
  · exact e
  · exfalso
    have hm : leastE E k ∈ fstK E k := fstK_mem.2 ⟨h1, leastE_idem h hk⟩
    obtain ⟨i, hi⟩ := List.getElem?_of_mem hm
    have h3 := hs i _ hi
    rw [h.symm _ _ hk (by omega) h2] at h3
    cases h3
theorem scan_some {n : Nat} {E : Nat → Nat → Bool} (h : Eqv n E) {k i u : Nat} (hk : k < n) (hi : (fstK E k)[i]? = some u) (hu : E u k = true) (hs : ∀ (j v : Nat), j < i → (fstK E k)[j]? = some v → E v k = false) : leastE E k = u := by
  have hum := fstK_mem.1 (List.mem_of_getElem? hi)
  have h1 : leastE E k ≤ u := leastE_of hum.1 (h.symm _ _ (by omega) hk hu)
  have hlt : leastE E k < k := by omega
  rcases leastE_cases E k with ⟨e, _⟩ | ⟨_, h2, _⟩
  · omega
  · have hm : leastE E k ∈ fstK E k := fstK_mem.2 ⟨hlt, leastE_idem h hk⟩
    obtain ⟨j, hj⟩ := List.getElem?_of_mem hm
    have h3 := h.symm _ _ hk (by omega) h2
    by_cases hji : j < i
    · rw [hs j _ hji hj] at h3; cases h3
    · obtain ⟨l1, e1⟩ := List.getElem?_eq_some_iff.1 hi
      obtain ⟨l2, e2⟩ := List.getElem?_eq_some_iff.1 hj
      have := List.pairwise_iff_getElem.1 (fstK_rise E k) i j l1 l2
      by_cases e : i = j
      · subst e
        rw [hi] at hj
        exact (Option.some.inj hj).symm
      · have := this (by omega)
        omega
/-- The parts, by their least points. -/
structure Units (n : Nat) (bs : List (List Nat)) (O : List Nat) : Prop where
  lo : O.length = n
  len : bs.length = (fsts n O).length
  unit : ∀ p, p < n → O.getD p 0 < n ∧ O.getD (O.getD p 0) 0 = O.getD p 0
  mem : ∀ (i u : Nat), (fsts n O)[i]? = some u → ∃ bl, bs[i]? = some bl ∧ ∀ p, p ∈ bl ↔ p < n ∧ O.getD p 0 = u
theorem Units.idx {n : Nat} {bs : List (List Nat)} {O : List Nat} (h : Units n bs O) {p : Nat} (hp : p < n) : ∃ i : Nat, (fsts n O)[i]? = some (O.getD p 0) := by
  obtain ⟨h1, h2⟩ := h.unit p hp
  exact List.getElem?_of_mem (fsts_mem.2 ⟨h1, h2⟩)
theorem Units.blk {n : Nat} {bs : List (List Nat)} {O : List Nat} (h : Units n bs O) {p i : Nat} (hp : p < n) (hi : (fsts n O)[i]? = some (O.getD p 0)) : (blkK n bs bs.length).getD p 0 = (i : Int) := by
  have key : ∀ k, k ≤ (fsts n O).length → (blkK n bs k).getD p 0 = if i < k then (i : Int) else 0 := by
    intro k
    induction k with
    | zero =>
      intro _
      simp [blkK, List.getD_eq_getElem?_getD, hp]
    | succ k ih =>
      intro hk
      rw [blkK_succ, setAll_at _ _ _ _ (by rw [blkK_length]; exact hp), ih (by omega)]
      have hkl : k < (fsts n O).length := by omega
      obtain ⟨bl, hb1, hb2⟩ := h.mem k _ (List.getElem?_eq_getElem hkl)
      have e : bs.getD k [] = bl := by rw [List.getD_eq_getElem?_getD, hb1]; rfl
      rw [e]
      by_cases hik : i = k
      · subst hik
        have e2 : (fsts n O)[i] = O.getD p 0 := by
          rw [List.getElem?_eq_getElem hkl] at hi
          exact Option.some.inj hi
        rw [if_pos ((hb2 p).2 ⟨hp, e2.symm⟩), if_pos (by omega)]
      · have hnm : p ∉ bl := by
          intro hmem
          have := ((hb2 p).1 hmem).2
          apply hik
          exact rise_inj (fsts_rise n O) hi (by rw [List.getElem?_eq_getElem hkl, this])
        rw [if_neg hnm]
        by_cases hlt : i < k
        · rw [if_pos hlt, if_pos (by omega)]
        · rw [if_neg hlt, if_neg (by omega)]
  have hil := (List.getElem?_eq_some_iff.1 hi).1
  rw [h.len, key _ (Nat.le_refl _), if_pos hil]
theorem Units.BF {n : Nat} {bs : List (List Nat)} {O : List Nat} (h : Units n bs O) {F : Nat → Nat → Bool} {ps : List (Nat × Nat)} (hps : ∀ p q, (p, q) ∈ ps ↔ p < n ∧ q < n ∧ F p q = true) {i j u v : Nat} (hi : (fsts n O)[i]? = some u) (hj : (fsts n O)[j]? = some v) :
    Go.Proofs.YtmmgdeoballhpaaDoor.BF (blkK n bs bs.length) ps i j = true ↔ u ≠ v ∧ ∃ p q, p < n ∧ q < n ∧ F p q = true ∧ O.getD p 0 = u ∧ O.getD q 0 = v := by
  have huv : i = j ↔ u = v := by
    constructor
    · rintro rfl; rw [hi] at hj; exact Option.some.inj hj
    · rintro rfl; exact rise_inj (fsts_rise n O) hi hj
  unfold Go.Proofs.YtmmgdeoballhpaaDoor.BF
  rw [List.any_eq_true]
  constructor
  · rintro ⟨⟨p, q⟩, hm, hc⟩
    obtain ⟨hp, hq, hF⟩ := (hps p q).1 hm
    simp only [Bool.and_eq_true, bne_iff_ne, ne_eq, beq_iff_eq] at hc
    obtain ⟨⟨c1, c2⟩, c3⟩ := hc
    obtain ⟨i', hi'⟩ := h.idx hp
    obtain ⟨j', hj'⟩ := h.idx hq
    rw [h.blk hp hi'] at c2
    rw [h.blk hq hj'] at c3
    obtain rfl : i' = i := by omega
    obtain rfl : j' = j := by omega
    rw [hi] at hi'
    rw [hj] at hj'
    refine ⟨?_, p, q, hp, hq, hF, (Option.some.inj hi').symm, (Option.some.inj hj').symm⟩
    intro e
    have := huv.2 e
    subst this
    apply c1
    rw [h.blk hp (i := i') (by rw [hi, hi']), h.blk hq (i := i') (by rw [hj, hj'])]
  · rintro ⟨huv2, p, q, hp, hq, hF, h1, h2⟩
    refine ⟨(p, q), (hps p q).2 ⟨hp, hq, hF⟩, ?_⟩
    simp only [Bool.and_eq_true, bne_iff_ne, ne_eq, beq_iff_eq]
    rw [h.blk hp (i := i) (by rw [hi, h1]), h.blk hq (i := j) (by rw [hj, h2])]
    refine ⟨⟨?_, rfl⟩, rfl⟩
    intro e
    apply huv2
    apply huv.1
    omega
/-- Pairs between two parts. -/
def acrF (F : Nat → Nat → Bool) (O : List Nat) : Nat → Nat → Bool := fun p q => F p q && (O.getD p 0 != O.getD q 0)
def smV (n : Nat) (F : Nat → Nat → Bool) (O : List Nat) : Nat → Nat → Bool := SmU n (acrF F O) O (List.replicate n (-1))
theorem neg_getD (n p q : Nat) : (List.replicate n (-1 : Int)).getD p 0 ≠ ((q + 1 : Nat) : Int) := by
  rw [List.getD_eq_getElem?_getD]
  by_cases h : p < n
  · simp [h]; omega
  · simp [h]; omega
theorem smV_iff {n : Nat} {F : Nat → Nat → Bool} {O : List Nat} {u v : Nat} : smV n F O u v = true ↔ ∃ p q, p < n ∧ q < n ∧ F p q = true ∧ O.getD p 0 ≠ O.getD q 0 ∧ O.getD p 0 = u ∧ O.getD q 0 = v := by
  unfold smV
  rw [SmU_iff]
  constructor
  · rintro ⟨p, q, hp, hq, h1, h2, h3, h4⟩
    unfold acrF at h1
    rw [Bool.and_eq_true, bne_iff_ne] at h1
    exact ⟨p, q, hp, hq, h1.1, h1.2, h3, h4⟩
  · rintro ⟨p, q, hp, hq, h1, h2, h3, h4⟩
    refine ⟨p, q, hp, hq, ?_, ?_, h3, h4⟩
    · unfold acrF
      rw [Bool.and_eq_true, bne_iff_ne]
      exact ⟨h1, h2⟩
    · rw [List.getD_eq_getElem?_getD]
      simp [hp]
theorem Units.sm {n : Nat} {bs : List (List Nat)} {O : List Nat} (h : Units n bs O) {F : Nat → Nat → Bool} {ps : List (Nat × Nat)} (hps : ∀ p q, (p, q) ∈ ps ↔ p < n ∧ q < n ∧ F p q = true) {i j u v : Nat} (hi : (fsts n O)[i]? = some u) (hj : (fsts n O)[j]? = some v) :
    smV n F O u v = Go.Proofs.YtmmgdeoballhpaaDoor.BF (blkK n bs bs.length) ps i j := by
  rw [Bool.eq_iff_iff, smV_iff, h.BF hps hi hj]
  constructor
  · rintro ⟨p, q, hp, hq, h1, h2, h3, h4⟩
    exact ⟨by rw [← h3, ← h4]; exact h2, p, q, hp, hq, h1, h3, h4⟩
  · rintro ⟨hne, p, q, hp, hq, h1, h3, h4⟩
    exact ⟨p, q, hp, hq, h1, by rw [h3, h4]; exact hne, h3, h4⟩
/-- The least points of the parts that are laid. -/
def lastU (fs pts : List Nat) : List Nat := pts.map (fun i => fs.getD i 0)
theorem lastU_snoc (fs pts : List Nat) (j : Nat) : lastU fs (pts ++ [j]) = lastU fs pts ++ [fs.getD j 0] := by simp [lastU]
theorem lastU_mem {n : Nat} {O : List Nat} {pts : List Nat} (hlt : ∀ i ∈ pts, i < (fsts n O).length) {j u : Nat} (hj : (fsts n O)[j]? = some u) : (lastU (fsts n O) pts).contains u = pts.contains j := by
  rw [Bool.eq_iff_iff, List.contains_iff_mem, List.contains_iff_mem]
  unfold lastU
  constructor
  · intro hm
    obtain ⟨i, hi, e⟩ := List.mem_map.1 hm
    have hil := hlt i hi
    have e2 : (fsts n O)[i]? = some u := by
      rw [List.getElem?_eq_getElem hil]
      rw [List.getD_eq_getElem?_getD, List.getElem?_eq_getElem hil] at e
      simpa using e
    rw [rise_inj (fsts_rise n O) hj e2]
    exact hi
  · intro hm
    exact List.mem_map.2 ⟨j, hm, by rw [List.getD_eq_getElem?_getD, hj]; rfl⟩
theorem Units.free {n : Nat} {bs : List (List Nat)} {O : List Nat} (h : Units n bs O) {F : Nat → Nat → Bool} {ps : List (Nat × Nat)} (hps : ∀ p q, (p, q) ∈ ps ↔ p < n ∧ q < n ∧ F p q = true) {pts : List Nat} (hlt : ∀ i ∈ pts, i < (fsts n O).length) {j u : Nat} (hj : (fsts n O)[j]? = some u) :
    freeF n (smV n F O) (doneL n (lastU (fsts n O) pts)) u = freeF (fsts n O).length (Go.Proofs.YtmmgdeoballhpaaDoor.BF (blkK n bs bs.length) ps) (doneL (fsts n O).length pts) j := by
  have hu := fsts_mem.1 (List.mem_of_getElem? hj)
  have hjl := (List.getElem?_eq_some_iff.1 hj).1
  unfold freeF
  rw [doneL_at _ hu.1, doneL_at _ hjl, lastU_mem hlt hj]
  congr 1
  rw [Bool.eq_iff_iff, List.all_eq_true, List.all_eq_true]
  constructor
  · intro ha i hi
    have hi := List.mem_range.1 hi
    rw [doneL_at _ hi]
    have hfi : (fsts n O)[i]? = some (fsts n O)[i] := List.getElem?_eq_getElem hi
    generalize (fsts n O)[i] = v at hfi
    have hv := fsts_mem.1 (List.mem_of_getElem? hfi)
    have := ha v (List.mem_range.2 hv.1)
    rw [doneL_at _ hv.1, lastU_mem hlt hfi, h.sm hps hfi hj] at this
    exact this
  · intro ha a han
    have han := List.mem_range.1 han
    rw [doneL_at _ han]
    cases hS : smV n F O a u
    · rfl
    · obtain ⟨p, q, hp, hq, c1, c2, c3, c4⟩ := smV_iff.1 hS
      obtain ⟨i, hi⟩ := h.idx hp
      rw [c3] at hi
      have hil := (List.getElem?_eq_some_iff.1 hi).1
      have := ha i (List.mem_range.2 hil)
      rw [doneL_at _ hil, ← h.sm hps hi hj, hS, ← lastU_mem hlt hi] at this
      exact this
/-- The reference's choice is the program's. -/
theorem Units.least {L : List Nat} {bs : List (List Nat)} {O : List Nat} {F : Nat → Nat → Bool} (h : Units L.length bs O) (hT : TwO L.length F L) (hn : L.length ≤ 256) (hlow : ∀ R ∈ L, R < 2 ^ L.length) {pts : List Nat} (hlt : ∀ i ∈ pts, i < (fsts L.length O).length) {nx : Int}
    (hl : LeastP (fun p => O.getD p 0 == p && freeF L.length (smV L.length F O) (doneL L.length (lastU (fsts L.length O) pts)) p) L.length 0 nx) :
    (nx = -1 ∧ fz (wAll (betw L bs).length (pairsL (betw L bs)) pts) < 0) ∨ (∃ (j u : Nat), nx = (u : Int) ∧ (fsts L.length O)[j]? = some u ∧ fz (wAll (betw L bs).length (pairsL (betw L bs)) pts) = (j : Int)) := by
  have hps := fun p q => pairs_of hT hn hlow p q
  have hbl : (betw L bs).length = (fsts L.length O).length := by rw [betw_length, h.len]
  have hfl : (fsts L.length O).length ≤ L.length := by
    have := List.length_filter_le (fun p => O.getD p 0 == p) (List.range L.length)
    rw [List.length_range] at this
    exact this
  have hbw := betw_two L bs
  have hfree : ∀ (j u : Nat), (fsts L.length O)[j]? = some u → freeF L.length (smV L.length F O) (doneL L.length (lastU (fsts L.length O) pts)) u = freeF (betw L bs).length (Go.Proofs.YtmmgdeoballhpaaDoor.BF (blkK L.length bs bs.length) (pairsL L)) (doneL (betw L bs).length pts) j := by
    intro j u hj
    rw [hbl]
    exact h.free hps hlt hj
  rcases hl with ⟨rfl, h1⟩ | ⟨u, rfl, _, hu, h3, h4⟩
  · refine Or.inl ⟨rfl, ?_⟩
    have : LeastF (betw L bs).length (Go.Proofs.YtmmgdeoballhpaaDoor.BF (blkK L.length bs bs.length) (pairsL L)) (doneL (betw L bs).length pts) 0 (-1) := by
      refine .inl ⟨rfl, fun q _ hq => ?_⟩
      obtain ⟨u, u1, u2, u3, u4⟩ := fs_at (n := L.length) (O := O) (i := q) (by omega)
      have := h1 u (Nat.zero_le _) u3
      simp only [] at this
      rw [u4, beq_self_eq_true, Bool.true_and, hfree q u u1] at this
      exact this
    have e := LeastF.fz hbw (by omega) (betw_low _ _) this
    omega
  · simp only [] at h3 h4
    rw [Bool.and_eq_true, beq_iff_eq] at h3
    obtain ⟨j, hj⟩ := List.getElem?_of_mem (fsts_mem.2 ⟨hu, h3.1⟩)
    have hjl := (List.getElem?_eq_some_iff.1 hj).1
    refine Or.inr ⟨j, u, rfl, hj, ?_⟩
    have : LeastF (betw L bs).length (Go.Proofs.YtmmgdeoballhpaaDoor.BF (blkK L.length bs bs.length) (pairsL L)) (doneL (betw L bs).length pts) 0 (j : Int) := by
      refine .inr ⟨j, rfl, Nat.zero_le _, by omega, by rw [← hfree j u hj]; exact h3.2, fun q _ hq => ?_⟩
      obtain ⟨u', u1, u2, u3, u4⟩ := fs_at (n := L.length) (O := O) (i := q) (by omega)
      have hlt' := (rise_lt (fsts_rise L.length O) u1 hj).1 hq
      have := h4 u' (Nat.zero_le _) hlt'
      rw [u4, beq_self_eq_true, Bool.true_and, hfree q u' u1] at this
      exact this
    exact (LeastF.fz hbw (by omega) (betw_low _ _) this).symm
/-- Where none may come any more, all that Sort lays is laid. -/
theorem SrtAt.over {L : List Nat} {i : Nat} {pts : List Nat} (h : SrtAt L i pts) (hf : fz (wAll L.length (pairsL L) pts) < 0) : sortOf L = pts := by
  have hle := h.le
  rw [h.srt, show L.length + 1 - i = (L.length - i) + 1 by omega]
  unfold Go.Proofs.YtmmgdeoballhpaaDoor.srt
  rw [if_neg (by omega)]
theorem fz_neg {l : List Int} (h : fz l < 0) (q : Nat) : l[q]? ≠ some 0 := by
  intro e
  unfold fz at h
  split at h
  · rename_i i hi
    omega
  · rename_i hi
    rw [List.findIdx?_eq_none_iff] at hi
    have := hi 0 (List.mem_of_getElem? e)
    simp at this
/-- Sort lays all, or comes to where none may come. -/
theorem srt_ends (L : List Nat) : ∀ k, k ≤ L.length → (∃ pts, SrtAt L k pts) ∨ ∃ i pts, SrtAt L i pts ∧ i < L.length ∧ fz (wAll L.length (pairsL L) pts) < 0
  | 0, _ => .inl ⟨[], SrtAt.begin L⟩
  | k + 1, hk => by
    rcases srt_ends L k (by omega) with ⟨pts, h⟩ | h
    · by_cases hf : fz (wAll L.length (pairsL L) pts) < 0
      · exact .inr ⟨k, pts, h, by omega, hf⟩
      · obtain ⟨p, e, _⟩ := fz_range (l := wAll L.length (pairsL L) pts) (by omega)
        exact .inl ⟨_, h.next (by omega) e⟩
    · exact .inr h
/-- Ranks that rise along pairs: Sort lays all. -/
theorem sort_all (L : List Nat) (rank : Nat → Nat) (hr : ∀ i j, (i, j) ∈ pairsL L → i < L.length ∧ rank i < rank j) : (sortOf L).length = L.length := by
  rcases srt_ends L L.length (Nat.le_refl _) with ⟨pts, h⟩ | ⟨i, pts, h, hi, hf⟩
  · rw [h.full, h.len]
  · exfalso
    have key : ∀ r j, rank j ≤ r → j < L.length → j ∈ pts := by
      intro r
      induction r with
      | zero =>
        intro j hj hjl
        refine Classical.byContradiction fun hnp => ?_
        apply fz_neg hf j
        rw [wAll_at _ _ hjl]
        congr 1
        unfold wAt
        rw [if_neg (by simpa using hnp)]
        have : (pairsL L).filter (fun x => x.2 == j && !pts.contains x.1) = [] := by
          rw [List.filter_eq_nil_iff]
          rintro ⟨a, q⟩ hx hc
          simp only [Bool.and_eq_true, beq_iff_eq] at hc
          obtain ⟨rfl, _⟩ := hc
          have := (hr a q hx).2
          omega
        rw [this]; rfl
      | succ r ih =>
        intro j hj hjl
        refine Classical.byContradiction fun hnp => ?_
        apply fz_neg hf j
        rw [wAll_at _ _ hjl]
        congr 1
        unfold wAt
        rw [if_neg (by simpa using hnp)]
        have : (pairsL L).filter (fun x => x.2 == j && !pts.contains x.1) = [] := by
          rw [List.filter_eq_nil_iff]
          rintro ⟨a, q⟩ hx hc
          simp only [Bool.and_eq_true, beq_iff_eq, Bool.not_eq_true'] at hc
          obtain ⟨rfl, hc⟩ := hc
          have h1 := hr a q hx
          have := ih a (by omega) h1.1
          rw [List.contains_iff_mem.2 this] at hc
          cases hc
        rw [this]; rfl
    have := sub_len (List.range L.length) pts List.nodup_range (fun j hj => key (rank j) j (Nat.le_refl _) (List.mem_range.1 hj))
    rw [List.length_range, h.len] at this
    omega
/-- A relation's closure, as a table. -/
structure Clo (n : Nat) (F C : Nat → Nat → Bool) : Prop where
  sub : ∀ p q, p < n → q < n → F p q = true → C p q = true
  trans : ∀ p q r, p < n → q < n → r < n → C p q = true → C q r = true → C p r = true
def bothE (C : Nat → Nat → Bool) (p q : Nat) : Bool := C p q && C q p
theorem Clo.eqv {n : Nat} {F C : Nat → Nat → Bool} (h : Clo n F C) : Eqv n (bothE C) := by
  refine ⟨fun p q _ _ e => ?_, fun p q r hp hq hr e1 e2 => ?_⟩
  · unfold bothE at e ⊢
    rw [Bool.and_comm]
    exact e
  · unfold bothE at e1 e2 ⊢
    rw [Bool.and_eq_true] at e1 e2 ⊢
    exact ⟨h.trans p q r hp hq hr e1.1 e2.1, h.trans r q p hr hq hp e2.2 e1.2⟩
def offs (E : Nat → Nat → Bool) (n : Nat) : List Nat := (List.range n).map (leastE E)
theorem offs_at {E : Nat → Nat → Bool} {n p : Nat} (hp : p < n) : (offs E n).getD p 0 = leastE E p := by
  simp [offs, List.getD_eq_getElem?_getD, hp]
theorem offs_fsts (E : Nat → Nat → Bool) (n : Nat) : fsts n (offs E n) = fstK E n := by
  unfold fsts fstK
  apply List.filter_congr
  intro p hp
  rw [offs_at (List.mem_range.1 hp)]
theorem units_cls {n : Nat} {E : Nat → Nat → Bool} (h : Eqv n E) : Units n (clsK E n) (offs E n) := by
  refine ⟨by simp [offs], by rw [offs_fsts]; simp [clsK], fun p hp => ?_, fun i u hi => ?_⟩
  · have hl := leastE_le E p
    rw [offs_at hp, offs_at (by omega)]
    exact ⟨by omega, leastE_idem h hp⟩
  · rw [offs_fsts] at hi
    refine ⟨clK E n u, by unfold clsK; rw [List.getElem?_map, hi]; rfl, fun p => ?_⟩
    rw [clK_mem]
    constructor
    · rintro ⟨h1, h2⟩; exact ⟨h1, by rw [offs_at h1]; exact h2⟩
    · rintro ⟨h1, h2⟩; exact ⟨h1, by rw [offs_at h1] at h2; exact h2⟩
/-- How many lead to a point, itself among them. -/
def leadN (n : Nat) (C : Nat → Nat → Bool) (u : Nat) : Nat := ((List.range n).filter (fun x => x == u || C x u)).length
theorem lead_lt {n : Nat} {F C : Nat → Nat → Bool} (h : Clo n F C) {u v : Nat} (hu : u < n) (hv : v < n) (huv : C u v = true) (hvu : C v u = false) (hne : u ≠ v) : leadN n C u < leadN n C v := by
  unfold leadN
  have hnd : ((List.range n).filter (fun x => x == u || C x u)).Nodup := List.nodup_range.sublist List.filter_sublist
  have := sub_len (v :: (List.range n).filter (fun x => x == u || C x u)) ((List.range n).filter (fun x => x == v || C x v)) (List.nodup_cons.2 ⟨?_, hnd⟩) ?_
  · rw [List.length_cons] at this
    omega
  · intro hm
    have := (List.mem_filter.1 hm).2
    rw [Bool.or_eq_true, beq_iff_eq] at this
    rcases this with e | e
    · exact hne e.symm
    · rw [hvu] at e; cases e
  · intro x hx
    rcases List.mem_cons.1 hx with rfl | hx
    · exact List.mem_filter.2 ⟨List.mem_range.2 hv, by simp⟩
    · obtain ⟨h1, h2⟩ := List.mem_filter.1 hx
      have hxn := List.mem_range.1 h1
      refine List.mem_filter.2 ⟨h1, ?_⟩
      rw [Bool.or_eq_true, beq_iff_eq] at h2 ⊢
      right
      rcases h2 with rfl | h2
      · exact huv
      · exact h.trans x u v hxn hu hv h2 huv
/-- Lists that led to each other in a round would be one: Sort lays them all. -/
theorem comps_all {L : List Nat} {F C : Nat → Nat → Bool} (hT : TwO L.length F L) (hn : L.length ≤ 256) (hlow : ∀ R ∈ L, R < 2 ^ L.length) (hC : Clo L.length F C) : (sortOf (betw L (clsK (bothE C) L.length))).length = (clsK (bothE C) L.length).length := by
  have hE := hC.eqv
  have hU := units_cls hE
  have hbl : (betw L (clsK (bothE C) L.length)).length = (fsts L.length (offs (bothE C) L.length)).length := by rw [betw_length, hU.len]
  have hps := fun p q => pairs_of hT hn hlow p q
  have hfl : (fsts L.length (offs (bothE C) L.length)).length ≤ L.length := by
    have := List.length_filter_le (fun p => (offs (bothE C) L.length).getD p 0 == p) (List.range L.length)
    rw [List.length_range] at this
    exact this
  have := sort_all (betw L (clsK (bothE C) L.length)) (fun i => leadN L.length C ((fsts L.length (offs (bothE C) L.length)).getD i 0)) ?_
  · rw [this, betw_length]
  · intro i j hij
    have hlt := pairsL_lt (betw_low L (clsK (bothE C) L.length)) _ hij
    refine ⟨hlt.1, ?_⟩
    rw [hbl] at hlt
    have hB := ((betw_two L (clsK (bothE C) L.length)).pairs (by omega) (betw_low _ _) (p := i) (q := j) (by rw [hbl]; exact hlt.1) (by rw [hbl]; exact hlt.2)).2 hij
    obtain ⟨u, u1, u2, u3, u4⟩ := fs_at hlt.1
    obtain ⟨v, v1, v2, v3, v4⟩ := fs_at hlt.2
    obtain ⟨hne, p, q, hp, hq, hF, hpu, hqv⟩ := (hU.BF hps u1 v1).1 hB
    rw [offs_at hp] at hpu
    rw [offs_at hq] at hqv
    show leadN L.length C ((fsts L.length (offs (bothE C) L.length)).getD i 0) < leadN L.length C ((fsts L.length (offs (bothE C) L.length)).getD j 0)
    rw [u2, v2]
    have side : ∀ p u, p < L.length → leastE (bothE C) p = u → u = p ∨ (C u p = true ∧ C p u = true) := by
      intro p u hp e
      rcases leastE_cases (bothE C) p with ⟨h1, _⟩ | ⟨_, h2, _⟩
      · left; rw [← e, h1]
      · right
        rw [e] at h2
        unfold bothE at h2
        rw [Bool.and_eq_true] at h2
        exact ⟨h2.2, h2.1⟩
    have hCpq := hC.sub p q hp hq hF
    have h1 : C u q = true := by
      rcases side p u hp hpu with rfl | ⟨e, _⟩
      · exact hCpq
      · exact hC.trans u p q u3 hp hq e hCpq
    have h2 : C u v = true := by
      rcases side q v hq hqv with rfl | ⟨_, e⟩
      · exact h1
      · exact hC.trans u q v u3 hq v3 h1 e
    refine lead_lt hC u3 v3 h2 ?_ hne
    rw [Bool.eq_false_iff]
    intro e
    apply hne
    have h3 := (leastE_same hE u3 v3).2 (.inr (by unfold bothE; rw [h2, e]; rfl))
    rw [offs_at u3] at u4
    rw [offs_at v3] at v4
    rw [u4, v4] at h3
    exact h3
/-- The closure that the program makes. -/
def cloB (L : List Nat) (p q : Nat) : Bool := (gr (plusL L) p).testBit q
theorem clo_plus {L : List Nat} {F : Nat → Nat → Bool} (hT : TwO L.length F L) (hw : WF L.length L) : Clo L.length F (cloB L) := by
  refine ⟨fun p q hp hq e => ?_, fun p q r _ _ _ e1 e2 => ?_⟩
  · have : hs L p q := by unfold hs; rw [← hT.same p q hp hq]; exact e
    exact (hs_plus hw p q).2 (Relation.TransGen.single this)
  · exact (hs_plus hw p r).2 (Relation.TransGen.trans ((hs_plus hw p q).1 e1) ((hs_plus hw q r).1 e2))
/-- What Components answers. -/
def compsL (L : List Nat) : List (List Nat) := sbOf L (clsK (bothE (cloB L)) L.length)
theorem wf_of_low {L : List Nat} (hlow : ∀ R ∈ L, R < 2 ^ L.length) : WF L.length L := by
  refine ⟨rfl, fun p q hq => ?_⟩
  apply Nat.lt_of_not_le
  intro hle
  have h1 := testBit_of_lt (gr_lt hlow (i := p)) hle
  unfold hs at hq
  rw [h1] at hq
  cases hq
end Go.Proofs.YtmmgdeoballhpaaDoor
/- All linear orders, in the order in which the walk of package order gives them. -/
namespace Go.Proofs.YtmmgdeoballhpaaDoor
open Go.RowKit Sx

/-- The points from fr on that may stand next. -/
def cands (n : Nat) (ps : List (Nat × Nat)) (pts : List Nat) (fr : Nat) : List Nat := (List.range n).filter (fun p => decide (fr ≤ p) && (wAt ps pts p == 0))
/-- All that pts can become with f points more. -/
def exts (n : Nat) (ps : List (Nat × Nat)) : Nat → List Nat → List (List Nat)
  | 0, pts => [pts]
  | f + 1, pts => (cands n ps pts 0).flatMap (fun p => exts n ps f (pts ++ [p]))
/-- What comes behind all that a line can become; the line turned round. -/
def backR (n : Nat) (ps : List (Nat × Nat)) : List Nat → List (List Nat)
  | [] => []
  | p :: q => (cands n ps q.reverse (p + 1)).flatMap (fun c => exts n ps (n - q.length - 1) (q.reverse ++ [c])) ++ backR n ps q
def back (n : Nat) (ps : List (Nat × Nat)) (pts : List Nat) : List (List Nat) := backR n ps pts.reverse
/-- What is still to come where the next point is looked for from fr on. -/
def restF (n : Nat) (ps : List (Nat × Nat)) (pts : List Nat) (fr : Nat) : List (List Nat) := (cands n ps pts fr).flatMap (fun c => exts n ps (n - pts.length - 1) (pts ++ [c])) ++ back n ps pts
/-- What is still to come where pts has just been laid. -/
def todo (n : Nat) (ps : List (Nat × Nat)) (pts : List Nat) : List (List Nat) := exts n ps (n - pts.length) pts ++ back n ps pts
section
variable {n : Nat} {ps : List (Nat × Nat)} {pts : List Nat}
theorem todo_nil : todo n ps [] = exts n ps n [] := by simp [todo, back, backR]
theorem back_nil : back n ps [] = [] := rfl
theorem back_snoc (p : Nat) : back n ps (pts ++ [p]) = restF n ps pts (p + 1) := by
  unfold back restF
  rw [List.reverse_append]
  show backR n ps (p :: pts.reverse) = _
  rw [backR, List.reverse_reverse, List.length_reverse]
  rfl
theorem todo_more (h : pts.length < n) : todo n ps pts = restF n ps pts 0 := by
  unfold todo restF
  rw [show n - pts.length = (n - pts.length - 1) + 1 by omega, exts]
  rfl
theorem todo_full (h : pts.length = n) : todo n ps pts = pts :: back n ps pts := by
  unfold todo
  rw [show n - pts.length = 0 by omega, exts]
  rfl
theorem range_split {p : Nat} (h : p < n) : List.range n = List.range p ++ p :: (List.range (n - p - 1)).map (fun x => p + 1 + x) := by
  rw [show n = p + (1 + (n - p - 1)) by omega, List.range_add, List.range_add]
  simp [Nat.add_assoc, Nat.add_sub_cancel_left]
theorem cands_least {fr p : Nat} (hp : p < n) (hf : fr ≤ p) (h0 : wAt ps pts p = 0) (hlo : ∀ q, fr ≤ q → q < p → wAt ps pts q ≠ 0) : cands n ps pts fr = p :: cands n ps pts (p + 1) := by
  unfold cands
  rw [range_split hp, List.filter_append, List.filter_append, List.filter_cons, List.filter_cons]
  have e1 : (List.range p).filter (fun q => decide (fr ≤ q) && (wAt ps pts q == 0)) = [] := by
    rw [List.filter_eq_nil_iff]
    intro q hq hc
    simp only [Bool.and_eq_true, decide_eq_true_eq, beq_iff_eq] at hc
    exact hlo q hc.1 (List.mem_range.1 hq) hc.2
  have e2 : (List.range p).filter (fun q => decide (p + 1 ≤ q) && (wAt ps pts q == 0)) = [] := by
    rw [List.filter_eq_nil_iff]
    intro q hq hc
    simp only [Bool.and_eq_true, decide_eq_true_eq, beq_iff_eq] at hc
    have := List.mem_range.1 hq
    omega
  rw [e1, e2, if_pos (by simp [hf, h0]), if_neg (by simp only [Bool.and_eq_true, decide_eq_true_eq]; omega), List.nil_append, List.nil_append]
  congr 1
  apply List.filter_congr
  intro q hq
  obtain ⟨x, _, rfl⟩ := List.mem_map.1 hq
  congr 1
  rw [Bool.eq_iff_iff]
  simp
  omega
theorem cands_none {fr : Nat} (h : ∀ q, fr ≤ q → q < n → wAt ps pts q ≠ 0) : cands n ps pts fr = [] := by
  unfold cands
  rw [List.filter_eq_nil_iff]
  intro q hq hc
  simp only [Bool.and_eq_true, decide_eq_true_eq, beq_iff_eq] at hc
  exact h q hc.1 (List.mem_range.1 hq) hc.2
theorem rest_put {fr p : Nat} (hp : p < n) (hf : fr ≤ p) (h0 : wAt ps pts p = 0) (hlo : ∀ q, fr ≤ q → q < p → wAt ps pts q ≠ 0) : restF n ps pts fr = todo n ps (pts ++ [p]) := by
  unfold todo
  rw [back_snoc]
  unfold restF
  rw [cands_least hp hf h0 hlo, List.flatMap_cons, List.append_assoc, List.length_append, List.length_singleton, Nat.sub_sub]
theorem rest_none {fr : Nat} (h : ∀ q, fr ≤ q → q < n → wAt ps pts q ≠ 0) : restF n ps pts fr = back n ps pts := by
  unfold restF
  rw [cands_none h]
  rfl
theorem fz_drop_some {fr : Nat} (h : 0 ≤ fz ((wAll n ps pts).drop fr)) : ∃ p : Nat, (fr : Int) + fz ((wAll n ps pts).drop fr) = (p : Int) ∧ fr ≤ p ∧ p < n ∧ wAt ps pts p = 0 ∧ ∀ q, fr ≤ q → q < p → wAt ps pts q ≠ 0 := by
  unfold fz at h ⊢
  split at h
  · rename_i i hi
    obtain ⟨h1, h2, h3⟩ := List.findIdx?_eq_some_iff_getElem.1 hi
    rw [List.length_drop, wAll_length] at h1
    refine ⟨fr + i, by omega, by omega, by omega, ?_, fun q hq1 hq2 hq3 => ?_⟩
    · rw [List.getElem_drop] at h2
      have := wAll_at ps pts (q := fr + i) (n := n) (by omega)
      rw [List.getElem?_eq_getElem (by rw [wAll_length]; omega)] at this
      injection this with this
      rw [← this]
      simpa using h2
    · have h4 := h3 (q - fr) (by omega)
      rw [List.getElem_drop] at h4
      have := wAll_at ps pts (q := fr + (q - fr)) (n := n) (by omega)
      rw [List.getElem?_eq_getElem (by rw [wAll_length]; omega)] at this
      injection this with this
      rw [this, show fr + (q - fr) = q by omega, hq3] at h4
      simp at h4
  · omega
theorem fz_drop_none {fr : Nat} (h : ¬ 0 ≤ fz ((wAll n ps pts).drop fr)) : ∀ q, fr ≤ q → q < n → wAt ps pts q ≠ 0 := by
  intro q hq hn e
  have hf : fz ((wAll n ps pts).drop fr) < 0 := by omega
  apply fz_neg hf (q - fr)
  rw [List.getElem?_drop, show fr + (q - fr) = q by omega, wAll_at _ _ hn, e]
end
/-- A line that may stand. -/
structure LineOk (n : Nat) (ps : List (Nat × Nat)) (pts : List Nat) : Prop where
  nodup : pts.Nodup
  lt : ∀ p ∈ pts, p < n
  topo : TopoU ps pts
theorem LineOk.nil (n : Nat) (ps : List (Nat × Nat)) : LineOk n ps [] := ⟨List.nodup_nil, (fun p hp => by simp at hp), fun A j C e => absurd e (by simp)⟩
theorem LineOk.snoc {n : Nat} {ps : List (Nat × Nat)} {pts : List Nat} (h : LineOk n ps pts) {p : Nat} (hp : p < n) (h0 : wAt ps pts p = 0) : LineOk n ps (pts ++ [p]) := by
  refine ⟨?_, fun q hq => ?_, h.topo.snoc (wAt_zero h0).2⟩
  · rw [List.nodup_append]
    exact ⟨h.nodup, by simp, fun a ha b hb => by simp at hb; subst hb; exact fun e => wAt_pos (e ▸ ha) h0⟩
  · rcases List.mem_append.1 hq with hq | hq
    · exact h.lt q hq
    · simp at hq; subst hq; exact hp
theorem LineOk.pre {n : Nat} {ps : List (Nat × Nat)} {pts : List Nat} {p : Nat} (h : LineOk n ps (pts ++ [p])) : LineOk n ps pts ∧ p < n ∧ p ∉ pts := by
  have h1 := List.nodup_append.1 h.nodup
  exact ⟨⟨h1.1, fun q hq => h.lt q (List.mem_append_left _ hq), fun A j C e => h.topo A j (C ++ [p]) (by rw [e]; simp)⟩, h.lt p (by simp), fun hp => h1.2.2 p hp p (by simp) rfl⟩
theorem topo_lt {ps : List (Nat × Nat)} {pts : List Nat} (h : TopoU ps pts) (hn : pts.Nodup) {i j : Nat} (hij : (i, j) ∈ ps) (hj : j ∈ pts) : pts.idxOf i < pts.idxOf j := by
  obtain ⟨A, C, e, hjA⟩ := split_mem hj hn
  have hi := h A j C e i hij
  rw [e]
  exact idx_before (R := j :: C) hi hjA
theorem line_mem {n : Nat} {ps : List (Nat × Nat)} {pts : List Nat} (h : LineOk n ps pts) (hl : pts.length = n) : ∀ i, i < n → i ∈ pts := by
  intro i hi
  refine Classical.byContradiction fun hni => ?_
  have := sub_len (i :: pts) (List.range n) (List.nodup_cons.2 ⟨hni, h.nodup⟩) (fun x hx => by
    rcases List.mem_cons.1 hx with rfl | hx
    · exact List.mem_range.2 hi
    · exact List.mem_range.2 (h.lt x hx))
  simp at this
  omega
theorem line_le {n : Nat} {ps : List (Nat × Nat)} {pts : List Nat} (h : LineOk n ps pts) : pts.length ≤ n := by
  have := sub_len pts (List.range n) h.nodup (fun x hx => List.mem_range.2 (h.lt x hx))
  rwa [List.length_range] at this
/-- A full line is a rank. -/
theorem line_rank {L : List Nat} {pts : List Nat} (hlow : ∀ R ∈ L, R < 2 ^ L.length) (h : LineOk L.length (pairsL L) pts) (hl : pts.length = L.length) : ∀ i j, (i, j) ∈ pairsL L → i < L.length ∧ pts.idxOf i < pts.idxOf j := by
  intro i j hij
  have := pairsL_lt hlow _ hij
  exact ⟨this.1, topo_lt h.topo h.nodup hij (line_mem h hl j this.2)⟩
/-- A full line: Sort lays all. -/
theorem line_sort {L : List Nat} {pts : List Nat} (hlow : ∀ R ∈ L, R < 2 ^ L.length) (h : LineOk L.length (pairsL L) pts) (hl : pts.length = L.length) : (sortOf L).length = L.length := sort_all L _ (line_rank hlow h hl)
theorem sort_line (L : List Nat) : LineOk L.length (pairsL L) (sortOf L) := ⟨(sortOf_good L).1, (sortOf_good L).2.1, (sortOf_good L).2.2⟩
/-- All orders of a relation; none if it has a cycle. -/
def allO (L : List Nat) : List (List Nat) := if (sortOf L).length = L.length then exts L.length (pairsL L) L.length [] else []
/-- What is to come where the next point is looked for from f on, or the line is full. -/
def nowF (L : List Nat) (pts : List Nat) (f : Nat) : List (List Nat) := if pts.length < L.length then restF L.length (pairsL L) pts f else pts :: back L.length (pairsL L) pts
theorem now_todo {L : List Nat} {pts : List Nat} (h : pts.length ≤ L.length) : nowF L pts 0 = todo L.length (pairsL L) pts := by
  unfold nowF
  split
  · exact (todo_more (by assumption)).symm
  · exact (todo_full (by omega)).symm
theorem now_begin {L : List Nat} (h : (sortOf L).length = L.length) : nowF L [] 0 = allO L := by
  rw [now_todo (by simp), todo_nil, allO, if_pos h]
theorem now_put {L : List Nat} {pts : List Nat} {f p : Nat} (hl : pts.length < L.length) (hp : p < L.length) (hf : f ≤ p) (h0 : wAt (pairsL L) pts p = 0) (hlo : ∀ q, f ≤ q → q < p → wAt (pairsL L) pts q ≠ 0) : nowF L pts f = nowF L (pts ++ [p]) 0 := by
  rw [now_todo (by simp; omega), nowF, if_pos hl]
  exact rest_put hp hf h0 hlo
theorem now_full {L : List Nat} {pts : List Nat} {f : Nat} (hl : ¬ pts.length < L.length) : nowF L pts f = pts :: back L.length (pairsL L) pts := by rw [nowF, if_neg hl]
/-- Where Sort lays all, no line is stuck. -/
theorem line_more {L : List Nat} {rank : Nat → Nat} (hr : ∀ i j, (i, j) ∈ pairsL L → i < L.length ∧ rank i < rank j) {pts : List Nat} (hl : pts.length < L.length) : 0 ≤ fz (wAll L.length (pairsL L) pts) := by
  refine Classical.byContradiction fun hf => ?_
  have hf : fz (wAll L.length (pairsL L) pts) < 0 := by omega
  have key : ∀ r j, rank j < r → j < L.length → j ∈ pts := by
    intro r
    induction r with
    | zero => intro j hj; omega
    | succ r ih =>
      intro j hj hjl
      refine Classical.byContradiction fun hnp => ?_
      apply fz_neg hf j
      rw [wAll_at _ _ hjl]
      congr 1
      unfold wAt
      rw [if_neg (by simpa using hnp)]
      have : (pairsL L).filter (fun x => x.2 == j && !pts.contains x.1) = [] := by
        rw [List.filter_eq_nil_iff]
        rintro ⟨a, q⟩ hx hc
        simp only [Bool.and_eq_true, beq_iff_eq, Bool.not_eq_true'] at hc
        obtain ⟨rfl, hc⟩ := hc
        have h1 := hr a q hx
        have := ih a (by omega) h1.1
        rw [List.contains_iff_mem.2 this] at hc
        cases hc
      rw [this]; rfl
  have := sub_len (List.range L.length) pts List.nodup_range (fun j hj => key (rank j + 1) j (by omega) (List.mem_range.1 hj))
  rw [List.length_range] at this
  omega
theorem subAll_at_neg : ∀ (bl : List Nat) (ws : List Int) (q : Nat), q < ws.length → (subAll (-1) ws bl).getD q 0 = ws.getD q 0 + (bl.count q : Int)
  | [], ws, q, _ => by simp [subAll]
  | p :: bl, ws, q, hq => by
    have h := subAll_at_neg bl (ws.set p (ws.getD p 0 - -1)) q (by simpa using hq)
    rw [show subAll (-1) ws (p :: bl) = subAll (-1) (ws.set p (ws.getD p 0 - -1)) bl from rfl, h, set_getD _ _ _ _ hq, List.count_cons]
    by_cases e : p = q
    · subst e
      simp
      omega
    · have : ¬ (p == q) = true := by simpa using e
      rw [if_neg e, if_neg this]
      simp
/-- Taking a point gives back what it had counted. -/
theorem take_wAll {n : Nat} (ps : List (Nat × Nat)) (pts : List Nat) {p : Nat} (hp : p < n) (hnp : p ∉ pts) : countF (-1) (wAll n ps (pts ++ [p])) p ((bkOf n ps).getD p []) = wAll n ps pts := by
  have e : (bkOf n ps).getD p [] = (ps.filter (fun x => x.1 == p)).map (·.2) := by rw [List.getD_eq_getElem?_getD, bkOf_at ps hp]; rfl
  rw [e]
  unfold countF
  apply ext_getD
  · rw [subAll_length, List.length_set, wAll_length, wAll_length]
  · intro q hq
    rw [subAll_length, List.length_set, wAll_length] at hq
    rw [subAll_at_neg _ _ _ (by rw [List.length_set, wAll_length]; exact hq), set_getD _ _ _ _ (by rw [wAll_length]; exact hq), wAll_getD _ _ hq, wAll_getD _ _ hq, wAll_getD _ _ hp]
    have hs := split_count pts p q hnp ps
    have hc : (pts ++ [p]).contains q = (pts.contains q || (q == p)) := by
      rw [Bool.eq_iff_iff]; simp
    unfold wAt
    rw [hs, hc]
    by_cases e2 : p = q
    · subst e2
      have h1 : pts.contains p = false := by rw [Bool.eq_false_iff]; simpa using hnp
      rw [if_pos rfl, h1]
      simp
      omega
    · have h3 : (q == p) = false := by simpa using fun e => e2 e.symm
      rw [if_neg e2, h3, Bool.or_false]
      omega
end Go.Proofs.YtmmgdeoballhpaaDoor
/- What the reference's more has behind each point, as maths; its loops' lists. -/
namespace Go.Proofs.YtmmgdeoballhpaaDoor
open Go.RowKit Go.Shelf Sx

/-- What the points below k give. -/
def extK (n : Nat) (ps : List (Nat × Nat)) (f : Nat) (pts : List Nat) (k : Nat) : List (List Nat) := ((List.range k).filter (fun p => wAt ps pts p == 0)).flatMap (fun p => exts n ps f (pts ++ [p]))
theorem extK_zero (n : Nat) (ps : List (Nat × Nat)) (f : Nat) (pts : List Nat) : extK n ps f pts 0 = [] := rfl
theorem extK_all (n : Nat) (ps : List (Nat × Nat)) (f : Nat) (pts : List Nat) : exts n ps (f + 1) pts = extK n ps f pts n := by
  rw [exts]
  unfold extK cands
  simp
theorem extK_yes {n : Nat} {ps : List (Nat × Nat)} {f : Nat} {pts : List Nat} {k : Nat} (h : wAt ps pts k = 0) : extK n ps f pts (k + 1) = extK n ps f pts k ++ exts n ps f (pts ++ [k]) := by
  unfold extK
  rw [List.range_succ, List.filter_append, List.flatMap_append]
  simp [h]
theorem extK_no {n : Nat} {ps : List (Nat × Nat)} {f : Nat} {pts : List Nat} {k : Nat} (h : ¬ wAt ps pts k = 0) : extK n ps f pts (k + 1) = extK n ps f pts k := by
  unfold extK
  rw [List.range_succ, List.filter_append, List.flatMap_append]
  simp [h]
theorem extK_pre (n : Nat) (ps : List (Nat × Nat)) (f : Nat) (pts : List Nat) : ∀ d k, k + d = n → ∃ r, exts n ps (f + 1) pts = extK n ps f pts k ++ r
  | 0, k, h => ⟨[], by rw [extK_all, ← h]; simp⟩
  | d + 1, k, h => by
    obtain ⟨r, hr⟩ := extK_pre n ps f pts d (k + 1) (by omega)
    by_cases hw : wAt ps pts k = 0
    · rw [extK_yes hw, List.append_assoc] at hr
      exact ⟨_, hr⟩
    · rw [extK_no hw] at hr
      exact ⟨_, hr⟩
/-- What more answers. -/
structure MoreA (E : List (List Nat)) (m : Nat) (os : List (List Nat)) (q : Bool) : Prop where
  os : os = E.take m
  q : q = decide (E.length ≤ m)
theorem MoreA.leaf0 {o : List Nat} {m : Nat} (h : m < 1) : MoreA [o] m [] false := ⟨by rw [show m = 0 by omega]; rfl, by simp; omega⟩
theorem MoreA.leaf1 {o : List Nat} {m : Nat} (h : ¬ m < 1) : MoreA [o] m [o] true := ⟨by rw [List.take_of_length_le (by simp; omega)], by simp; omega⟩
/-- All of a point's orders fit. -/
theorem MoreA.fits {E : List (List Nat)} {m : Nat} {os : List (List Nat)} (h : MoreA E m os true) : os = E ∧ E.length ≤ m := by
  have h1 := of_decide_eq_true h.q.symm
  exact ⟨by rw [h.os, List.take_of_length_le h1], h1⟩
theorem MoreA.go {n : Nat} {ps : List (Nat × Nat)} {f : Nat} {pts : List Nat} {k m : Nat} {os : List (List Nat)} (hw : wAt ps pts k = 0) (hl : (extK n ps f pts k).length ≤ m) (h : MoreA (exts n ps f (pts ++ [k])) (m - (extK n ps f pts k).length) os true) :
    extK n ps f pts k ++ os = extK n ps f pts (k + 1) ∧ (extK n ps f pts (k + 1)).length ≤ m := by
  obtain ⟨rfl, h2⟩ := h.fits
  rw [extK_yes hw]
  exact ⟨rfl, by rw [List.length_append]; omega⟩
theorem MoreA.stop {n : Nat} {ps : List (Nat × Nat)} {f : Nat} {pts : List Nat} {k m : Nat} {os : List (List Nat)} (hk : k < n) (hw : wAt ps pts k = 0) (hl : (extK n ps f pts k).length ≤ m) (h : MoreA (exts n ps f (pts ++ [k])) (m - (extK n ps f pts k).length) os false) :
    MoreA (exts n ps (f + 1) pts) m (extK n ps f pts k ++ os) false := by
  have h1 := of_decide_eq_false h.q.symm
  obtain ⟨r, hr⟩ := extK_pre n ps f pts (n - (k + 1)) (k + 1) (by omega)
  rw [extK_yes hw] at hr
  rw [hr]
  refine ⟨?_, ?_⟩
  · rw [h.os, List.append_assoc, List.take_append, List.take_of_length_le hl]
    congr 1
    rw [List.take_append_of_le_length (by omega)]
  · rw [eq_comm, decide_eq_false_iff_not]
    simp only [List.length_append]
    omega
theorem MoreA.done {n : Nat} {ps : List (Nat × Nat)} {f : Nat} {pts : List Nat} {m : Nat} (hl : (extK n ps f pts n).length ≤ m) : MoreA (exts n ps (f + 1) pts) m (extK n ps f pts n) true := by
  rw [extK_all]
  exact ⟨by rw [List.take_of_length_le hl], by simp [hl]⟩
/-- The program's answer is so, too. -/
theorem MoreA.of_take {E : List (List Nat)} {m : Nat} : MoreA E m (E.take m) (decide (E.length ≤ m)) := ⟨rfl, rfl⟩
end Go.Proofs.YtmmgdeoballhpaaDoor
/- Lists of numbers of our own, each in a block of its own, and the list of them. -/
namespace Go.Proofs.YtmmgdeoballhpaaDoor
open Go.RowKit Go.Shelf Sx

theorem owns_keep {W W' : World} {base : Nat} {e : TypeId} {size : Nat} {v : Value} {n : Nat} {xs : List Value} (h : W.ownsRow base e size v n xs) (hk : ∀ g, v.ownBlock = some g → W'.heap[g]? = W.heap[g]?) : W'.ownsRow base e size v n xs := by
  refine ⟨h.1, ?_⟩
  rcases h.2 with h2 | ⟨g, cap, cur, rfl, hb, hg, rest⟩
  · exact .inl h2
  · exact .inr ⟨g, cap, cur, rfl, hb, (hk g rfl).trans hg, rest⟩
theorem owns_blk {W : World} {base : Nat} {e : TypeId} {size : Nat} {v : Value} {n : Nat} {xs : List Value} (h : W.ownsRow base e size v n xs) {g : Nat} (hg : v.ownBlock = some g) : ∃ cur, Blk W g e cur := by
  rcases h.2 with ⟨rfl, _⟩ | ⟨g', cap, cur, rfl, hb, hg', _⟩
  · cases hg
  · simp [Value.ownBlock] at hg
    subst hg
    exact ⟨cur, hg'⟩
theorem blk_type {W : World} {g : Nat} {e e' : TypeId} {c c' : Array Value} (h : Blk W g e c) (k : Blk W g e' c') : e = e' := by
  have := h.symm.trans k
  simp at this
  exact this.2
/-- Each list lies in a block of its own. -/
structure OwnL (W : World) (base : Nat) (vs : List Value) (ls : List (List Int)) : Prop where
  len : vs.length = ls.length
  row : ∀ (i : Nat) (x : Value) (l : List Int), vs[i]? = some x → ls[i]? = some l → W.ownsRow base 3 1 x l.length (encJ l)
  apart : ∀ (i j : Nat) (x y : Value) (g : Nat), vs[i]? = some x → vs[j]? = some y → x.ownBlock = some g → y.ownBlock = some g → i = j
theorem OwnL.at_ {W : World} {base : Nat} {vs : List Value} {ls : List (List Int)} (h : OwnL W base vs ls) {i : Nat} {x : Value} (hx : vs[i]? = some x) : ∃ l, ls[i]? = some l ∧ W.ownsRow base 3 1 x l.length (encJ l) := by
  have hi : i < vs.length := (List.getElem?_eq_some_iff.1 hx).1
  have hl : ls[i]? = some (ls[i]'(by have := h.len; omega)) := List.getElem?_eq_getElem _
  exact ⟨_, hl, h.row i x _ hx hl⟩
theorem OwnL.keep {W W' : World} {base : Nat} {vs : List Value} {ls : List (List Int)} (h : OwnL W base vs ls) (hk : ∀ (i : Nat) (x : Value) (g : Nat), vs[i]? = some x → x.ownBlock = some g → W'.heap[g]? = W.heap[g]?) : OwnL W' base vs ls :=
  ⟨h.len, fun i x l hx hl => owns_keep (h.row i x l hx hl) (fun g hg => hk i x g hx hg), h.apart⟩
theorem OwnL.lt {W : World} {base : Nat} {vs : List Value} {ls : List (List Int)} (h : OwnL W base vs ls) {i : Nat} {x : Value} {g : Nat} (hx : vs[i]? = some x) (hg : x.ownBlock = some g) : base ≤ g ∧ g < W.heap.size := by
  obtain ⟨l, _, ho⟩ := h.at_ hx
  exact ho.lt g hg
theorem OwnL.step {W W' : World} {base : Nat} {vs : List Value} {ls : List (List Int)} (h : OwnL W base vs ls) (hb : Below W.heap.size W W') : OwnL W' base vs ls := h.keep (fun _ _ g hx hg => hb.block g (h.lt hx hg).2)
/-- The list of the lists. -/
structure ClR (W : World) (base : Nat) (v : Value) (vs : List Value) (ls : List (List Int)) : Prop where
  own : W.ownsRow base 29 1 v vs.length vs
  rows : OwnL W base vs ls
theorem ClR.step {W W' : World} {base : Nat} {v : Value} {vs : List Value} {ls : List (List Int)} (h : ClR W base v vs ls) (hb : Below W.heap.size W W') : ClR W' base v vs ls := ⟨owns_below' h.own hb, h.rows.step hb⟩
theorem ClR.nil (W : World) (base : Nat) : ClR W base (.slice none 0 0) [] [] := ⟨World.ownsRow_nil _ _ _ _, rfl, fun i x l h => by simp at h, fun i j x y g h => by simp at h⟩
theorem ClR.ne {W : World} {base : Nat} {v : Value} {vs : List Value} {ls : List (List Int)} (h : ClR W base v vs ls) {i : Nat} {x : Value} {g : Nat} (hx : vs[i]? = some x) (hg : x.ownBlock = some g) : v.ownBlock ≠ some g := by
  intro e
  obtain ⟨l, _, ho⟩ := h.rows.at_ hx
  obtain ⟨c1, h1⟩ := owns_blk ho hg
  obtain ⟨c2, h2⟩ := owns_blk h.own e
  exact absurd (blk_type h1 h2) (by decide)
theorem owns_one {W : World} {base s : Nat} {x : Int} (h : Blk W s 3 #[.int .i64 x]) (hb : base ≤ s) : W.ownsRow base 3 1 (.slice (some ⟨s, 0, none⟩) 1 1) 1 (encJ [x]) :=
  ⟨by simp [encJ], .inr ⟨s, 1, _, rfl, hb, h, Nat.le_refl _, by decide, by simp, by simp [encJ]⟩⟩
theorem ClR.add {W W5 : World} {base : Nat} {v v' x : Value} {vs : List Value} {ls : List (List Int)} {l : List Int} {o : Obj} (h : ClR W base v vs ls) (hx : W.ownsRow base 3 1 x l.length (encJ l)) (hap : ∀ (i : Nat) (y : Value) (g : Nat), vs[i]? = some y → y.ownBlock = some g → x.ownBlock ≠ some g)
    (hown : W5.ownsRow base 29 1 v' (vs.length + 1) (vs ++ [x])) (hg : (W.alloc o).grownBy W5 v.ownBlock) : ClR W5 base v' (vs ++ [x]) (ls ++ [l]) := by
  have old : ∀ (i : Nat) (y : Value) (g : Nat), vs[i]? = some y → y.ownBlock = some g → W5.heap[g]? = W.heap[g]? := fun i y g hy hyg => by
    have hl := (h.rows.lt hy hyg).2
    rw [hg.block g (by simp; omega) (fun e => h.ne hy hyg e.symm), Below.heap_alloc _ _ _ hl]
  have hnew : W5.ownsRow base 3 1 x l.length (encJ l) := owns_keep hx (fun g e => by
    have hl := (hx.lt g e).2
    rw [hg.block g (by simp; omega) (fun e2 => by
      obtain ⟨c1, h1⟩ := owns_blk hx e
      obtain ⟨c2, h2⟩ := owns_blk h.own e2.symm
      exact absurd (blk_type h1 h2) (by decide)), Below.heap_alloc _ _ _ hl])
  have hlen := h.rows.len
  have key : ∀ (i : Nat) (y : Value), (vs ++ [x])[i]? = some y → (i < vs.length ∧ vs[i]? = some y) ∨ (i = vs.length ∧ y = x) := fun i y hy => by
    by_cases hi : i < vs.length
    · rw [List.getElem?_append_left hi] at hy
      exact .inl ⟨hi, hy⟩
    · have hi2 : i = vs.length := by have := (List.getElem?_eq_some_iff.1 hy).1; simp at this; omega
      subst hi2
      rw [List.getElem?_append_right (Nat.le_refl _)] at hy
      simp at hy
      exact .inr ⟨rfl, hy.symm⟩
  refine ⟨by rw [List.length_append]; exact hown, by simp [hlen], fun i y l' hy hl => ?_, fun i j y z g hy hz h1 h2 => ?_⟩
  · rcases key i y hy with ⟨hi, hy⟩ | ⟨rfl, rfl⟩
    · rw [List.getElem?_append_left (by omega)] at hl
      exact owns_keep (h.rows.row i y l' hy hl) (fun g e => old i y g hy e)
    · rw [hlen, List.getElem?_append_right (Nat.le_refl _)] at hl
      simp at hl
      subst hl
      exact hnew
  · rcases key i y hy with ⟨a1, a2⟩ | ⟨a1, rfl⟩
    · rcases key j z hz with ⟨b1, b2⟩ | ⟨b1, rfl⟩
      · exact h.rows.apart i j y z g a2 b2 h1 h2
      · exact absurd h2 (hap i y g a2 h1)
    · rcases key j z hz with ⟨b1, b2⟩ | ⟨b1, rfl⟩
      · exact absurd h1 (hap j z g b2 h2)
      · omega
theorem ClR.push {W W5 : World} {base : Nat} {v v' : Value} {vs : List Value} {ls : List (List Int)} {x : Int} {o : Obj} (h : ClR W base v vs ls) (hb : base ≤ W.heap.size)
    (hown : W5.ownsRow base 29 1 v' (vs.length + 1) (vs ++ [.slice (some ⟨W.heap.size, 0, none⟩) 1 1])) (hg : ((W.alloc (.cells #[.int .i64 x] 3)).alloc o).grownBy W5 v.ownBlock) : ClR W5 base v' (vs ++ [.slice (some ⟨W.heap.size, 0, none⟩) 1 1]) (ls ++ [[x]]) := by
  refine (h.step ((Below.refl _ W).alloc (Nat.le_refl _) (.cells #[.int .i64 x] 3))).add (l := [x]) (owns_one (Blk.new W _ _) hb) (fun i y g hy hyg e => ?_) hown hg
  have h1 := (h.rows.lt hy hyg).2
  simp [Value.ownBlock] at e
  omega
theorem OwnL.swap {W W' : World} {base : Nat} {vs : List Value} {ls : List (List Int)} (h : OwnL W base vs ls) {i : Nat} {x x' : Value} {l' : List Int} (hx : vs[i]? = some x) (ho : W'.ownsRow base 3 1 x' l'.length (encJ l')) (hat : x'.ownBlock = x.ownBlock ∨ ∃ N, x'.ownBlock = some N ∧ W.heap.size ≤ N)
    (hk : ∀ k, k < W.heap.size → (∃ (j : Nat) (y : Value), vs[j]? = some y ∧ y.ownBlock = some k) → some k ≠ x.ownBlock → W'.heap[k]? = W.heap[k]?) : OwnL W' base (vs.set i x') (ls.set i l') := by
  have hi : i < vs.length := (List.getElem?_eq_some_iff.1 hx).1
  have hli := h.len
  refine ⟨by simp [hli], fun j y l hy hl => ?_, fun j k y z g hy hz h1 h2 => ?_⟩
  · rw [List.getElem?_set] at hy hl
    by_cases e : i = j
    · subst e
      rw [if_pos rfl, if_pos hi] at hy
      rw [if_pos rfl, if_pos (by omega)] at hl
      cases hy; cases hl
      exact ho
    · rw [if_neg e] at hy hl
      refine owns_keep (h.row j y l hy hl) (fun g hg => hk g (h.lt hy hg).2 ⟨j, y, hy, hg⟩ (fun e2 => e (h.apart i j x y g hx hy e2.symm hg)))
  · rw [List.getElem?_set] at hy hz
    have other : ∀ (j : Nat) (y : Value), i ≠ j → vs[j]? = some y → y.ownBlock = some g → x'.ownBlock = some g → False := fun j y hne hy hg hg' => by
      rcases hat with e | ⟨N, e, hN⟩
      · rw [e] at hg'
        exact hne (h.apart i j x y g hx hy hg' hg)
      · rw [e] at hg'
        have := (h.lt hy hg).2
        simp at hg'
        omega
    by_cases e : i = j
    · subst e
      rw [if_pos rfl, if_pos hi] at hy
      cases hy
      by_cases e2 : i = k
      · exact e2
      · rw [if_neg e2] at hz
        exact (other k z e2 hz h2 h1).elim
    · rw [if_neg e] at hy
      by_cases e2 : i = k
      · subst e2
        rw [if_pos rfl, if_pos hi] at hz
        cases hz
        exact (other j y e hy h1 h2).elim
      · rw [if_neg e2] at hz
        exact h.apart j k y z g hy hz h1 h2
/-- A list is longer by one: its new slice is stored in its place. -/
theorem ClR.grow {W W5 : World} {base g cap i m : Nat} {vs : List Value} {ls : List (List Int)} {x x' : Value} {l : List Int} {p : Int} {o : Obj} (h : ClR W base (.slice (some ⟨g, 0, none⟩) m cap) vs ls) (hx : vs[i]? = some x)
    (hown : W5.ownsRow base 3 1 x' (l.length + 1) (encJ l ++ [.int .i64 p])) (hg : (W.alloc o).grownBy W5 x.ownBlock) (hat : x'.ownBlock = x.ownBlock ∨ x'.ownBlock = some (W.alloc o).heap.size) :
    ClR (W5.setCell ⟨g, i, none⟩ x') base (.slice (some ⟨g, 0, none⟩) m cap) (vs.set i x') (ls.set i (l ++ [p])) := by
  have hm : m = vs.length := by
    rcases h.own.2 with ⟨e, _⟩ | ⟨g', c', cur, e, _⟩
    · cases e
    · injection e
  subst hm
  have hgx : some g ≠ x.ownBlock := fun e => h.ne hx e.symm rfl
  have hgl : g < W.heap.size := (h.own.lt g rfl).2
  have ho5 : W5.ownsRow base 29 1 (.slice (some ⟨g, 0, none⟩) vs.length cap) vs.length vs := owns_keep h.own (fun k hk => by
    simp [Value.ownBlock] at hk
    subst hk
    rw [hg.block g (by simp; omega) hgx, Below.heap_alloc _ _ _ hgl])
  have hx'g : x'.ownBlock ≠ some g := fun e => by
    obtain ⟨c1, h1⟩ := owns_blk hown e
    obtain ⟨c2, h2⟩ := owns_blk ho5 (g := g) rfl
    exact absurd (blk_type h1 h2) (by decide)
  refine ⟨?_, h.rows.swap hx ?_ ?_ ?_⟩
  · rw [List.length_set]
    exact (ho5.stored i x').1
  · rw [show encJ (l ++ [p]) = encJ l ++ [.int .i64 p] from encJ_snoc l p, List.length_append]
    refine owns_keep hown (fun k hk => Below.heap_setCell _ _ _ _ (fun e => ?_))
    have e : k = g := e
    exact hx'g (by rw [← e]; exact hk)
  · rcases hat with e | e
    · exact .inl e
    · exact .inr ⟨_, e, by simp⟩
  · rintro k hk ⟨j, y, hy, hyk⟩ hne
    have hkg : k ≠ g := fun e => h.ne hy hyk (by rw [← e] ; rfl)
    rw [Below.heap_setCell _ _ _ _ (show k ≠ (⟨g, i, none⟩ : Addr).block from hkg), hg.block k (by simp; omega) hne, Below.heap_alloc _ _ _ hk]
theorem ClR.lo {W : World} {base b' : Nat} {v : Value} {vs : List Value} {ls : List (List Int)} (h : ClR W base v vs ls) (hb : b' ≤ base) : ClR W b' v vs ls :=
  ⟨owns_lo h.own hb, h.rows.len, fun i x l hx hl => owns_lo (h.rows.row i x l hx hl) hb, h.rows.apart⟩
/-- What can be read of it. -/
theorem ClR.blocks {W : World} {base : Nat} {v : Value} {vs : List Value} {bs : List (List Nat)} (h : ClR W base v vs (bs.map toI)) : BlocksR W v bs := by
  have hlen : vs.length = bs.length := by have := h.rows.len; simpa using this
  obtain ⟨a, cap, e⟩ := owns_len h.own
  refine ⟨a, cap, by rw [← hlen]; exact e, vs, hlen, fun h0 => ?_, fun i u bl hu hbl => ?_⟩
  · obtain ⟨s, cap', e1, h1, h2⟩ := owns_cells h.own rfl (by omega)
    rw [e] at e1
    injection e1 with e1 _ _
    exact ⟨s, e1, h1, h2⟩
  · exact owns_intsR (h.rows.row i u (toI bl) hu (by rw [List.getElem?_map, hbl]; rfl))
end Go.Proofs.YtmmgdeoballhpaaDoor
/- The contract of the reference's Sort. -/
namespace Go.Proofs.YtmmgdeoballhpaaDoor
open Go.RowKit Go.Shelf Sx

/-- What the reference's Sort keeps: its box, what is done, the list. -/
structure R2At (w W : World) (n : Nat) (A v : Value) (D : List Bool) (pts : List Nat) : Prop where
  below : Below w.heap.size w W
  box : Blk W w.heap.size 46 #[.int .i64 ((n : Nat) : Int), A]
  don : Blk W (w.heap.size + 1) 4 (arrB D)
  own : W.ownsRow (w.heap.size + 2) 3 1 v pts.length (encN pts)
theorem R2At.step {w W W' : World} {n : Nat} {A v : Value} {D : List Bool} {pts : List Nat} (h : R2At w W n A v D pts) (hb : Below W.heap.size W W') : R2At w W' n A v D pts :=
  ⟨below_step h.below h.below.size hb, h.box.of_below hb, h.don.of_below hb, owns_below' h.own hb⟩
theorem R2At.mark {w W : World} {n : Nat} {A v : Value} {D : List Bool} {pts : List Nat} (h : R2At w W n A v D pts) (p : Nat) : R2At w (W.setCell ⟨w.heap.size + 1, p, none⟩ (.bool true)) n A v (D.set p true) pts :=
  ⟨h.below.setCell (by simp) _, h.box.setOther (by simp) _, by have := h.don.set p (.bool true); rwa [arrB_set] at this, owns_set h.own (by simp) _⟩
theorem R2At.more {w W W' : World} {n : Nat} {A v v' : Value} {D : List Bool} {pts : List Nat} {p : Nat} (h : R2At w W n A v D pts)
    (hown : W'.ownsRow (w.heap.size + 2) 3 1 v' (pts.length + 1) (encN pts ++ [.int .i64 ((p : Nat) : Int)]))
    (hg : (W.alloc (.cells #[.int .i64 ((p : Nat) : Int)] 3)).grownBy W' v.ownBlock) : R2At w W' n A v' D (pts ++ [p]) := by
  have hlt := h.don.lt
  refine ⟨(h.below.alloc h.below.size _).grown hg (by simp; omega) (fun k e => by have := (h.own.lt k e).1; omega), ?_, ?_, ?_⟩
  · exact (hg.block _ (by simp; omega) (fun e => by have := (h.own.lt _ e.symm).1; omega)).trans (h.box.alloc _)
  · exact (hg.block _ (by simp; omega) (fun e => by have := (h.own.lt _ e.symm).1; omega)).trans (h.don.alloc _)
  · rw [show encN (pts ++ [p]) = encN pts ++ [.int .i64 ((p : Nat) : Int)] from by simp [encN], List.length_append]
    exact hown
theorem owns_sliceN {w : World} {base : Nat} {e : TypeId} {size : Nat} {v : Value} {n : Nat} {xs : List Value} (h : w.ownsRow base e size v n xs) : ∃ x y z, v = .slice x y z := owns_slice h
set_option maxRecDepth 100000 in
set_option maxHeartbeats 4000000 in
theorem r2sort_calls (lo n : Nat) (hn : n ≤ 256) (x : Option Addr) (y z : Nat) (rb : Nat → Nat) (F : Nat → Nat → Bool) (L : List Nat) (w : World) (h : RefM lo w (.slice x y z) n n rb F) (hL : n = L.length) (hT : TwO L.length F L) (hlow : ∀ R ∈ L, R < 2 ^ L.length) :
    Calls Tryd.prog 24 #[.agg #[.int .i64 ((n : Nat) : Int), .slice x y z]] w fun e w' => ∃ v code, e = .returned (.tuple #[v, .int .i64 code]) ∧ SortAns w w' L v code ∧ Below w.heap.size w w' := by
  obtain ⟨i0, hi, hz0, hz1, hz2⟩ := info_parts Tryd.infoint
  have hmk := make_bools n (by omega)
  have hA : R2At w ((w.alloc (.cells #[.int .i64 ((n : Nat) : Int), .slice x y z] 46)).alloc (.cells (arrB (List.replicate n false)) 4)) n (.slice x y z) (.slice none 0 0) (doneL n []) [] := by
    refine ⟨((Below.refl _ _).alloc (Nat.le_refl _) _).alloc (by simp) _, (Blk.new w _ _).alloc _, ?_, World.ownsRow_nil _ _ _ _⟩
    have := Blk.new (w.alloc (.cells #[.int .i64 ((n : Nat) : Int), .slice x y z] 46)) 4 (arrB (List.replicate n false))
    rw [World.size_alloc] at this
    rw [doneL_nil]
    exact this
  have b0 := hA.box.cell (j := 0) rfl
  have HA := hid_of hA
  have HT := hid_of hT
  have HLW := hid_of hlow
  have HLn := hid_of hL
  clear hA hT hlow hL
  go_enter Tryd.func24, Tryd.ntmps24
  go_wp2_with fail
  clear b0 hmk
  go_loopw [5, 6] (fun v i wr => ∃ (k : Nat) (pts : List Nat), k ≤ n ∧ i = .int .i64 k ∧ R2At w wr n (.slice x y z) v (doneL n pts) pts ∧ Hid (SrtAt L k pts) ∧ pts.length = k) (fun _ i _ => n - (intOf i).toNat)
  case atStart => exact ⟨0, [], by omega, rfl, HA.out, SrtAt.begin L, rfl⟩
  case round =>
    clear HA
    obtain ⟨k, pts, hk, rfl, hA, HS, hlen⟩ := hrel
    obtain ⟨vx, vy, vz, rfl⟩ := owns_sliceN hA.own
    have b0 := hA.box.cell (j := 0) rfl
    by_cases hlt : k < n
    · go_wp2_with fail
      clear b0
      go_loopw [7, 8] (fun nx i wr2 => ∃ (q : Nat) (nv : Int), q ≤ n ∧ nx = .int .i64 nv ∧ i = .int .i64 ((q : Int) - 1) ∧ Hid (LeastF n F (doneL n pts) q nv) ∧ R2At w wr2 n (.slice x y z) (.slice vx vy vz) (doneL n pts) pts) (fun _ i _ => (intOf i + 1).toNat)
      case atStart => exact ⟨n, -1, by omega, rfl, by go_num, LeastF.start _ _ _, hA⟩
      case round =>
        clear hA
        obtain ⟨q, nv, hq, rfl, rfl, HLF, hA⟩ := hrel
        by_cases hq0 : 0 < q
        · obtain ⟨q', rfl⟩ : ∃ q', q = q' + 1 := ⟨q - 1, by omega⟩
          have eq1 : (((q' + 1 : Nat) : Int)) - 1 = (q' : Int) := by omega
          rw [eq1]
          have b0 := hA.box.cell (j := 0) rfl
          have b1 := hA.box.cell (j := 1) rfl
          have hf := r2free_calls lo n hn x y z rb F (doneL n pts) (w.heap.size + 1) q' wr (h.below hA.below) hA.don (doneL_length _ _) (by omega)
          have g0 : (0 : Int) ≤ (q' : Int) := by omega
          cases hfr : freeF n F (doneL n pts) q'
          · rw [hfr] at hf
            have HLF2 := hid_of (HLF.out.no hfr)
            clear hfr
            go_wp2_with fail
            refine hf.mono ?_
            rintro e w2 ⟨rfl, hB2⟩
            have hA2 := hA.step hB2
            clear hf
            go_wp2_with fail
            refine ⟨⟨q', nv, by omega, rfl, by go_num, HLF2, hA2⟩, by first | (simp [intOf]; done) | (simp [intOf]; omega)⟩
          · rw [hfr] at hf
            have HLF2 := hid_of (LeastF.yes (n := n) (by omega) hfr)
            clear hfr
            go_wp2_with fail
            refine hf.mono ?_
            rintro e w2 ⟨rfl, hB2⟩
            have hA2 := hA.step hB2
            clear hf
            go_wp2_with fail
            refine ⟨⟨q', q', by omega, rfl, by go_num, HLF2, hA2⟩, by first | (simp [intOf]; done) | (simp [intOf]; omega)⟩
        · obtain rfl : q = 0 := by omega
          have HF : Hid (nv = fz (wAll L.length (pairsL L) pts)) := by
            have e := HLn.out
            have hh := HLF.out
            rw [e] at hh
            exact LeastF.fz HT.out (by omega) HLW.out hh
          have hm1 : ¬ (0 : Int) ≤ ((0 : Nat) : Int) - 1 := by omega
          by_cases hneg : nv < 0
          · go_wp2_with fail
            go_ret2
            have hst := HS.out.stuck (by have := HLn.out; omega) (by rw [← HF.out]; exact hneg)
            exact ⟨_, _, rfl, ⟨fun e => absurd e hst, fun _ => ⟨rfl, rfl⟩⟩, hA.below⟩
          · obtain ⟨p, rfl⟩ : ∃ p : Nat, nv = (p : Int) := ⟨nv.toNat, by omega⟩
            have hp := fz_new HF.out.symm
            have hpn : p < n := by rw [HLn.out]; exact hp.1
            have p0 : (0 : Int) ≤ (p : Int) := by omega
            have p1 : (p : Int) < (n : Int) := by omega
            have d0 := arrB_cell hA.don (i := p) (by rw [doneL_length]; exact hpn)
            have f0 := hA.don.frozen p
            have hA2 := hA.mark p
            rw [doneL_set] at hA2
            have HS2 := hid_of (HS.out.next (by have := HLn.out; omega) HF.out.symm)
            have hz : (wr.setCell ⟨w.heap.size + 1, p, none⟩ (.bool true)).heap.size = wr.heap.size := by simp [World.setCell]
            have hsz := hA.don.lt
            have HA2 := hid_of hA2
            clear hA2 hA HF HLF
            go_wp2_with (at_builtin; refine wpList_append_own_at _ rfl _ _ 29 rfl (w.heap.size + 2) 3 i0 (.int .i64 0) 1 8 Tryd.underlying29 hi hz0 hz1 hz2 rfl (by decide) (.slice vx vy vz) pts.length (encN pts) rfl (HA2.out.own.alloc _) ⟨_, 0, none⟩ 1 1 [.int .i64 p] rfl rfl (by intro k u hk; match k, hk with | 0, hk => simp at hk; subst hk; have h3 := (Blk.new (wr.setCell ⟨w.heap.size + 1, p, none⟩ (.bool true)) 3 #[.int .i64 ((p : Nat) : Int)]).cell (j := 0) rfl; rw [hz] at h3; exact h3) (by simp [Value.oneCell']) (by unfold maxLen; omega) (by omega) (by simp; omega) ?_; intro v' w5 hown' hgrow _ _; have hA5 := HA2.out.more hown' hgrow)
            refine ⟨⟨k + 1, pts ++ [p], by omega, by go_num, hA5, HS2, by simp; omega⟩, by simp [intOf]; omega⟩
    · obtain rfl : k = n := by omega
      go_wp2_with fail
      go_ret2
      refine ⟨_, _, rfl, ⟨fun _ => ⟨rfl, ?_⟩, fun e => ?_⟩, hA.below⟩
      · have hs := HS.out
        rw [HLn.out] at hs
        rw [hs.full]
        have := owns_lo hA.own (show w.heap.size ≤ w.heap.size + 2 by omega)
        rw [hlen, HLn.out] at this
        exact this
      · exfalso
        have hs := HS.out
        have hl2 := hlen
        rw [HLn.out] at hs hl2
        rw [hs.full] at e
        exact e hl2
end Go.Proofs.YtmmgdeoballhpaaDoor
/- The contract of the reference's Glue: what it keeps. -/
namespace Go.Proofs.YtmmgdeoballhpaaDoor
open Go.RowKit Go.Shelf Sx

/-- The reference's box, its units' numbers and what comes next. -/
structure G1 (w W : World) (n : Nat) (A : Value) (O X : List Int) : Prop where
  below : Below w.heap.size w W
  box : Blk W w.heap.size 46 #[.int .i64 ((n : Nat) : Int), A]
  of_ : Blk W (w.heap.size + 1) 3 (intsA O)
  nx : Blk W (w.heap.size + 2) 3 (intsA X)
theorem G1.step {w W W' : World} {n : Nat} {A : Value} {O X : List Int} (h : G1 w W n A O X) (hb : Below W.heap.size W W') : G1 w W' n A O X :=
  ⟨below_step h.below h.below.size hb, h.box.of_below hb, h.of_.of_below hb, h.nx.of_below hb⟩
theorem G1.setO {w W : World} {n : Nat} {A : Value} {O X : List Int} (h : G1 w W n A O X) (i : Nat) (x : Int) : G1 w (W.setCell ⟨w.heap.size + 1, i, none⟩ (.int .i64 x)) n A (O.set i x) X :=
  ⟨h.below.setCell (by simp) _, h.box.setOther (by simp) _, h.of_.setI i x, h.nx.setOther (by simp) _⟩
theorem G1.setX {w W : World} {n : Nat} {A : Value} {O X : List Int} (h : G1 w W n A O X) (i : Nat) (x : Int) : G1 w (W.setCell ⟨w.heap.size + 2, i, none⟩ (.int .i64 x)) n A O (X.set i x) :=
  ⟨h.below.setCell (by simp) _, h.box.setOther (by simp) _, h.of_.setOther (by simp) _, h.nx.setI i x⟩
theorem G1.other {w W : World} {n : Nat} {A : Value} {O X : List Int} (h : G1 w W n A O X) {g : Nat} (hg : w.heap.size + 3 ≤ g) (j : Nat) (v : Value) : G1 w (W.setCell ⟨g, j, none⟩ v) n A O X :=
  ⟨h.below.setCell (by show w.heap.size ≤ g; omega) _, h.box.setOther (by show w.heap.size ≠ g; omega) _, h.of_.setOther (by show w.heap.size + 1 ≠ g; omega) _, h.nx.setOther (by show w.heap.size + 2 ≠ g; omega) _⟩
def upTo (n k : Nat) (f : Nat → Int) : List Int := (List.range n).map (fun q => if q < k then f q else 0)
theorem upTo_zero (n : Nat) (f : Nat → Int) : upTo n 0 f = List.replicate n 0 := by
  unfold upTo
  apply List.ext_getElem?
  intro i
  by_cases h : i < n
  · simp [h]
  · simp [h]
theorem upTo_set {n k : Nat} (f : Nat → Int) (hk : k < n) : (upTo n k f).set k (f k) = upTo n (k + 1) f := by
  unfold upTo
  apply List.ext_getElem?
  intro i
  rw [List.getElem?_set]
  by_cases h : k = i
  · subst h
    simp [hk]
  · rw [if_neg h, List.getElem?_map, List.getElem?_map]
    by_cases hi : i < n
    · rw [List.getElem?_range hi]
      simp only [Option.map_some]
      congr 1
      have : i < k ↔ i < k + 1 := by omega
      simp only [this]
    · rw [List.getElem?_eq_none (by simp; omega)]
      rfl
theorem upTo_all (n : Nat) (f : Nat → Int) : upTo n n f = (List.range n).map f := by
  unfold upTo
  apply List.map_congr_left
  intro q hq
  rw [if_pos (List.mem_range.1 hq)]
theorem upTo_length (n k : Nat) (f : Nat → Int) : (upTo n k f).length = n := by simp [upTo]
theorem cell_upTo {w : World} {g n k : Nat} {f : Nat → Int} (h : Blk w g 3 (intsA (upTo n k f))) {i : Nat} (hi : i < n) : ∃ x, w.cell? ⟨g, i, none⟩ = some (.int .i64 x) := ⟨_, h.cellI (List.getElem?_eq_getElem (by rw [upTo_length]; exact hi))⟩
theorem cellI_getD {w : World} {g : Nat} {l : List Int} (h : Blk w g 3 (intsA l)) {i : Nat} (hi : i < l.length) : w.cell? ⟨g, i, none⟩ = some (.int .i64 (l.getD i 0)) := by
  have := h.cellI (List.getElem?_eq_getElem hi)
  rw [this]
  simp [List.getD_eq_getElem?_getD, hi]
theorem toI_getD (O : List Nat) (i : Nat) : (toI O).getD i 0 = ((O.getD i 0 : Nat) : Int) := by
  unfold toI
  rw [List.getD_eq_getElem?_getD, List.getD_eq_getElem?_getD, List.getElem?_map]
  cases O[i]? <;> simp
theorem toI_set (O : List Nat) (i a : Nat) : (toI O).set i ((a : Nat) : Int) = toI (O.set i a) := by
  unfold toI
  rw [List.map_set]
/-- The same, with the points that are used. -/
structure GAt (w W : World) (n : Nat) (A : Value) (ub : Nat) (O : List Nat) (X : List Int) (U : List Bool) : Prop where
  g1 : G1 w W n A (toI O) X
  us : Blk W ub 4 (arrB U)
  lo : w.heap.size + 3 ≤ ub
theorem GAt.step {w W W' : World} {n : Nat} {A : Value} {ub : Nat} {O : List Nat} {X : List Int} {U : List Bool} (h : GAt w W n A ub O X U) (hb : Below W.heap.size W W') : GAt w W' n A ub O X U := ⟨h.g1.step hb, h.us.of_below hb, h.lo⟩
theorem GAt.pair {w W : World} {n : Nat} {A : Value} {ub : Nat} {O : List Nat} {X : List Int} {U : List Bool} (h : GAt w W n A ub O X U) (a b : Nat) : GAt w ((((W.setCell ⟨ub, a, none⟩ (.bool true)).setCell ⟨ub, b, none⟩ (.bool true)).setCell ⟨w.heap.size + 1, b, none⟩ (.int .i64 ((a : Nat) : Int))).setCell ⟨w.heap.size + 2, a, none⟩ (.int .i64 ((b : Nat) : Int))) n A ub (O.set b a) (X.set a ((b : Nat) : Int)) ((U.set a true).set b true) := by
  have h1 := (((h.g1.other h.lo a (.bool true)).other h.lo b (.bool true)).setO b ((a : Nat) : Int)).setX a ((b : Nat) : Int)
  rw [toI_set] at h1
  have hl := h.lo
  refine ⟨h1, ?_, h.lo⟩
  have h2 := (h.us.set a (.bool true)).set b (.bool true)
  rw [arrB_set, arrB_set] at h2
  exact (h2.setOther (by show ub ≠ w.heap.size + 1; omega) _).setOther (by show ub ≠ w.heap.size + 2; omega) _
/-- The same, with the relation of the units. -/
structure G3 (w W : World) (n : Nat) (A : Value) (ub : Nat) (O : List Nat) (X : List Int) (U : List Bool) (sb lo2 : Nat) (M2 : Value) (rb2 : Nat → Nat) (S : Nat → Nat → Bool) : Prop where
  g : GAt w W n A ub O X U
  sm : RefM lo2 W M2 n n rb2 S
  sbx : Blk W sb 46 #[.int .i64 ((n : Nat) : Int), M2]
  lo : ub < lo2 ∧ lo2 ≤ sb
  rlt : ∀ p, p < n → rb2 p < sb
  mlt : ∀ g, M2.ownBlock = some g → g < sb
theorem G3.step {w W W' : World} {n : Nat} {A : Value} {ub : Nat} {O : List Nat} {X : List Int} {U : List Bool} {sb lo2 : Nat} {M2 : Value} {rb2 : Nat → Nat} {S : Nat → Nat → Bool} (h : G3 w W n A ub O X U sb lo2 M2 rb2 S) (hb : Below W.heap.size W W') : G3 w W' n A ub O X U sb lo2 M2 rb2 S := ⟨h.g.step hb, h.sm.below hb, h.sbx.of_below hb, h.lo, h.rlt, h.mlt⟩
theorem GAt.other {w W : World} {n : Nat} {A : Value} {ub : Nat} {O : List Nat} {X : List Int} {U : List Bool} (h : GAt w W n A ub O X U) {g : Nat} (hg : ub < g) (j : Nat) (v : Value) : GAt w (W.setCell ⟨g, j, none⟩ v) n A ub O X U :=
  ⟨h.g1.other (by have := h.lo; omega) j v, h.us.setOther (by show ub ≠ g; omega) _, h.lo⟩
theorem G3.put {w W : World} {n : Nat} {A : Value} {ub : Nat} {O : List Nat} {X : List Int} {U : List Bool} {sb lo2 : Nat} {M2 : Value} {rb2 : Nat → Nat} {S : Nat → Nat → Bool} (h : G3 w W n A ub O X U sb lo2 M2 rb2 S) {u v : Nat} (hu : u < n) (hv : v < n) : G3 w (W.setCell ⟨rb2 u, v, none⟩ (.bool true)) n A ub O X U sb lo2 M2 rb2 (upd S u v true) := by
  have h1 := (h.sm.row u hu).1
  have h2 := h.rlt u hu
  have h3 := h.lo
  exact ⟨h.g.other (by omega) _ _, h.sm.put hu hv true, h.sbx.setOther (by show sb ≠ rb2 u; omega) _, h.lo, h.rlt, h.mlt⟩
/-- How far the units' relation is laid. -/
def SmK (n : Nat) (F : Nat → Nat → Bool) (O : List Nat) (X : List Int) (p q : Nat) (S : Nat → Nat → Bool) : Prop := ∀ u v, S u v = true ↔ ∃ p' q', p' < n ∧ q' < n ∧ (p' < p ∨ (p' = p ∧ q' < q)) ∧ F p' q' = true ∧ X.getD p' 0 ≠ (q' : Int) ∧ O.getD p' 0 = u ∧ O.getD q' 0 = v
theorem SmK.start (n : Nat) (F : Nat → Nat → Bool) (O : List Nat) (X : List Int) : SmK n F O X 0 0 (fun _ _ => false) := by
  intro u v
  constructor
  · intro h; cases h
  · rintro ⟨p', q', _, _, h, _⟩
    omega
theorem SmK.row {n : Nat} {F : Nat → Nat → Bool} {O : List Nat} {X : List Int} {p : Nat} {S : Nat → Nat → Bool} (h : SmK n F O X p n S) : SmK n F O X (p + 1) 0 S := by
  intro u v
  rw [h u v]
  constructor
  · rintro ⟨p', q', h1, h2, h3, h4⟩
    exact ⟨p', q', h1, h2, by omega, h4⟩
  · rintro ⟨p', q', h1, h2, h3, h4⟩
    exact ⟨p', q', h1, h2, by omega, h4⟩
theorem SmK.no {n : Nat} {F : Nat → Nat → Bool} {O : List Nat} {X : List Int} {p q : Nat} {S : Nat → Nat → Bool} (h : SmK n F O X p q S) (hx : ¬ (F p q = true ∧ X.getD p 0 ≠ (q : Int))) : SmK n F O X p (q + 1) S := by
  intro u v
  rw [h u v]
  constructor
  · rintro ⟨p', q', h1, h2, h3, h4⟩
    exact ⟨p', q', h1, h2, by omega, h4⟩
  · rintro ⟨p', q', h1, h2, h3, h4, h5, h6⟩
    refine ⟨p', q', h1, h2, ?_, h4, h5, h6⟩
    by_cases e : p' = p ∧ q' = q
    · obtain ⟨rfl, rfl⟩ := e
      exact absurd ⟨h4, h5⟩ hx
    · omega
theorem SmK.yes {n : Nat} {F : Nat → Nat → Bool} {O : List Nat} {X : List Int} {p q : Nat} {S : Nat → Nat → Bool} (h : SmK n F O X p q S) (hp : p < n) (hq : q < n) (hF : F p q = true) (hX : X.getD p 0 ≠ (q : Int)) : SmK n F O X p (q + 1) (upd S (O.getD p 0) (O.getD q 0) true) := by
  intro u v
  unfold upd
  by_cases e : u = O.getD p 0 ∧ v = O.getD q 0
  · rw [if_pos e]
    refine ⟨fun _ => ⟨p, q, hp, hq, Or.inr ⟨rfl, by omega⟩, hF, hX, e.1.symm, e.2.symm⟩, fun _ => rfl⟩
  · rw [if_neg e, h u v]
    constructor
    · rintro ⟨p', q', h1, h2, h3, h4⟩
      exact ⟨p', q', h1, h2, by omega, h4⟩
    · rintro ⟨p', q', h1, h2, h3, h4, h5, h6, h7⟩
      refine ⟨p', q', h1, h2, ?_, h4, h5, h6, h7⟩
      by_cases e2 : p' = p ∧ q' = q
      · obtain ⟨rfl, rfl⟩ := e2
        exact absurd ⟨h6.symm, h7.symm⟩ e
      · omega
theorem SmK.done {n : Nat} {F : Nat → Nat → Bool} {O : List Nat} {X : List Int} {S : Nat → Nat → Bool} (h : SmK n F O X n 0 S) (u v : Nat) : S u v = SmU n F O X u v := by
  rw [Bool.eq_iff_iff, h u v, SmU_iff]
  constructor
  · rintro ⟨p', q', h1, h2, h3, h4⟩
    exact ⟨p', q', h1, h2, h4⟩
  · rintro ⟨p', q', h1, h2, h4⟩
    exact ⟨p', q', h1, h2, Or.inl h1, h4⟩
/-- The same, with what is done and the list. -/
structure G5 (w W : World) (n : Nat) (A : Value) (ub : Nat) (O : List Nat) (X : List Int) (U : List Bool) (sb lo2 : Nat) (M2 : Value) (rb2 : Nat → Nat) (S : Nat → Nat → Bool) (db : Nat) (D : List Bool) (v : Value) (ls : List Nat) : Prop where
  g : G3 w W n A ub O X U sb lo2 M2 rb2 S
  don : Blk W db 4 (arrB D)
  own : W.ownsRow (db + 1) 3 1 v ls.length (encN ls)
  lo : sb < db
theorem G5.step {w W W' : World} {n : Nat} {A : Value} {ub : Nat} {O : List Nat} {X : List Int} {U : List Bool} {sb lo2 : Nat} {M2 : Value} {rb2 : Nat → Nat} {S : Nat → Nat → Bool} {db : Nat} {D : List Bool} {v : Value} {ls : List Nat} (h : G5 w W n A ub O X U sb lo2 M2 rb2 S db D v ls) (hb : Below W.heap.size W W') : G5 w W' n A ub O X U sb lo2 M2 rb2 S db D v ls :=
  ⟨h.g.step hb, h.don.of_below hb, owns_below' h.own hb, h.lo⟩
theorem RefM.far {lo : Nat} {w : World} {M : Value} {k n : Nat} {rb : Nat → Nat} {F : Nat → Nat → Bool} (h : RefM lo w M k n rb F) {g : Nat} (hg : w.heap.size ≤ g ∨ ((∀ p, p < k → rb p ≠ g) ∧ M.ownBlock ≠ some g)) (j : Nat) (v : Value) : RefM lo (w.setCell ⟨g, j, none⟩ v) M k n rb F := by
  refine ⟨?_, fun p hp => ⟨(h.row p hp).1, (h.row p hp).2.setOther ?_ _⟩, h.apart, h.inj⟩
  · obtain ⟨h1, h2⟩ := h.own
    refine ⟨h1, ?_⟩
    rcases h2 with h2 | ⟨g', cap, cur, e1, e2, e3, e4⟩
    · exact .inl h2
    · have hgl : g' < w.heap.size := (Array.getElem?_eq_some_iff.1 e3).1
      have hne : g' ≠ g := by
        rcases hg with hg | hg
        · omega
        · intro e
          exact hg.2 (by rw [e1, ← e]; rfl)
      exact .inr ⟨g', cap, cur, e1, e2, (Below.heap_setCell w ⟨g, j, none⟩ v g' hne).trans e3, e4⟩
  · have := (h.row p hp).2.lt
    rcases hg with hg | hg
    · show rb p ≠ g
      omega
    · exact hg.1 p hp
theorem G5.mark {w W : World} {n : Nat} {A : Value} {ub : Nat} {O : List Nat} {X : List Int} {U : List Bool} {sb lo2 : Nat} {M2 : Value} {rb2 : Nat → Nat} {S : Nat → Nat → Bool} {db : Nat} {D : List Bool} {v : Value} {ls : List Nat} (h : G5 w W n A ub O X U sb lo2 M2 rb2 S db D v ls) (p : Nat) : G5 w (W.setCell ⟨db, p, none⟩ (.bool true)) n A ub O X U sb lo2 M2 rb2 S db (D.set p true) v ls := by
  have h1 := h.g.lo
  have h2 := h.lo
  refine ⟨⟨h.g.g.other (by omega) _ _, h.g.sm.far (.inr ⟨fun q hq => ?_, fun e => ?_⟩) _ _, h.g.sbx.setOther (by show sb ≠ db; omega) _, h.g.lo, h.g.rlt, h.g.mlt⟩, ?_, owns_set h.own (by show db < db + 1; omega) _, h.lo⟩
  · have := h.g.rlt q hq
    omega
  · have := h.g.mlt _ e
    omega
  · have := h.don.set p (.bool true)
    rwa [arrB_set] at this
theorem G5.more {w W W' : World} {n : Nat} {A : Value} {ub : Nat} {O : List Nat} {X : List Int} {U : List Bool} {sb lo2 : Nat} {M2 : Value} {rb2 : Nat → Nat} {S : Nat → Nat → Bool} {db : Nat} {D : List Bool} {v v' : Value} {ls : List Nat} {p : Nat} (h : G5 w W n A ub O X U sb lo2 M2 rb2 S db D v ls)
    (hown : W'.ownsRow (db + 1) 3 1 v' (ls.length + 1) (encN ls ++ [.int .i64 ((p : Nat) : Int)])) (hg : (W.alloc (.cells #[.int .i64 ((p : Nat) : Int)] 3)).grownBy W' v.ownBlock) : G5 w W' n A ub O X U sb lo2 M2 rb2 S db D v' (ls ++ [p]) := by
  have h1 := h.g.lo
  have h2 := h.lo
  have h3 := h.g.g.lo
  have hdl := h.don.lt
  have hA := h.step ((Below.refl W.heap.size W).alloc (Nat.le_refl _) (.cells #[.int .i64 ((p : Nat) : Int)] 3))
  have hne : ∀ k, k ≤ db → v.ownBlock ≠ some k := fun k hk e => by have := (h.own.lt k e).1; omega
  have hblk : ∀ k, k ≤ db → W'.heap[k]? = (W.alloc (.cells #[.int .i64 ((p : Nat) : Int)] 3)).heap[k]? := fun k hk => hg.block k (by simp; omega) (fun e => hne k hk e.symm)
  have hbw : Below w.heap.size w W' := (hA.g.g.g1.below).grown hg (by have := hA.g.g.g1.below.size; exact this) (fun k e => by have := (h.own.lt k e).1; omega)
  refine ⟨⟨⟨⟨hbw, (hblk _ (by omega)).trans hA.g.g.g1.box, (hblk _ (by omega)).trans hA.g.g.g1.of_, (hblk _ (by omega)).trans hA.g.g.g1.nx⟩, (hblk _ (by omega)).trans hA.g.g.us, h3⟩, ?_, (hblk _ (by omega)).trans hA.g.sbx, h.g.lo, h.g.rlt, h.g.mlt⟩, (hblk _ (by omega)).trans hA.don, ?_, h.lo⟩
  · refine ⟨?_, fun q hq => ⟨(hA.g.sm.row q hq).1, (hblk _ (by have := h.g.rlt q hq; omega)).trans (hA.g.sm.row q hq).2⟩, hA.g.sm.apart, hA.g.sm.inj⟩
    obtain ⟨e1, e2⟩ := hA.g.sm.own
    refine ⟨e1, ?_⟩
    rcases e2 with e2 | ⟨g', cap, cur, a1, a2, a3, a4⟩
    · exact .inl e2
    · have := h.g.mlt g' (by rw [a1]; rfl)
      exact .inr ⟨g', cap, cur, a1, a2, (hblk g' (by omega)).trans a3, a4⟩
  · rw [show encN (ls ++ [p]) = encN ls ++ [.int .i64 ((p : Nat) : Int)] from by simp [encN], List.length_append]
    exact hown
/-- What the reference's Glue answers. -/
def GlueR (w w' : World) (r : List Nat × Int) (e : Ending) : Prop := ∃ v, e = .returned (.tuple #[v, .int .i64 r.2]) ∧ (r.2 = 0 → w'.ownsRow w.heap.size 3 1 v r.1.length (encN r.1)) ∧ (r.2 ≠ 0 → v = .slice none 0 0)
end Go.Proofs.YtmmgdeoballhpaaDoor
/- The contract of the reference's Glue, walked. -/
namespace Go.Proofs.YtmmgdeoballhpaaDoor
open Go.RowKit Go.Shelf Sx

theorem news_int (w : World) (p : Nat) : ∀ j u, ([.int .i64 ((p : Nat) : Int)] : List Value)[j]? = some u → (w.alloc (.cells #[.int .i64 ((p : Nat) : Int)] 3)).cell? ((⟨w.heap.size, 0, none⟩ : Addr).add j) = some u := by
  intro j u hj
  rw [Addr.add_lit, Nat.zero_add]
  exact (Blk.new w 3 #[.int .i64 ((p : Nat) : Int)]).cell (by simpa using hj)
set_option maxRecDepth 100000 in
set_option maxHeartbeats 16000000 in
theorem r2glue_calls (lo n : Nat) (hn : n ≤ 256) (x : Option Addr) (y z : Nat) (rb : Nat → Nat) (F : Nat → Nat → Bool) (L : List Nat) (vp : Value) (l : List (Int × Int)) (w : World) (h : RefM lo w (.slice x y z) n n rb F) (hL : n = L.length) (hT : TwO L.length F L) (hlow : ∀ R ∈ L, R < 2 ^ L.length) (hv : ∃ p cap, vp = .slice p l.length cap ∧ (0 < l.length → ∃ s o, p = some ⟨s, o, none⟩ ∧ PairsAt w s o l)) (hm : l.length ≤ 9223372036854775807) :
    Calls Tryd.prog 35 #[.agg #[.int .i64 ((n : Nat) : Int), .slice x y z], vp] w fun e w' => GlueR w w' (glueF L l) e ∧ Below w.heap.size w w' := by
  obtain ⟨p, cap, rfl, hp⟩ := hv
  obtain ⟨i0, hi, hz0, hz1, hz2⟩ := info_parts Tryd.infoint
  have hmi := fun W => make_ints n (by omega) W
  have hmb := fun W => make_bools n (by omega) W
  have HP := hid_of hp
  have HT := hid_of hT
  have HLW := hid_of hlow
  have HLn := hid_of hL
  have hA0 : G1 w (((w.alloc (.cells #[.int .i64 ((n : Nat) : Int), .slice x y z] 46)).alloc (.cells (intsA (List.replicate n 0)) 3)).alloc (.cells (intsA (List.replicate n 0)) 3)) n (.slice x y z) (List.replicate n 0) (List.replicate n 0) := by
    refine ⟨(((Below.refl _ _).alloc (Nat.le_refl _) _).alloc (by simp) _).alloc (by simp; omega) _, ((Blk.new w _ _).alloc _).alloc _, ?_, ?_⟩
    · have := Blk.new (w.alloc (.cells #[.int .i64 ((n : Nat) : Int), .slice x y z] 46)) 3 (intsA (List.replicate n 0))
      rw [World.size_alloc] at this
      exact this.alloc _
    · have := Blk.new ((w.alloc (.cells #[.int .i64 ((n : Nat) : Int), .slice x y z] 46)).alloc (.cells (intsA (List.replicate n 0)) 3)) 3 (intsA (List.replicate n 0))
      rw [World.size_alloc, World.size_alloc] at this
      exact this
  have b0 : (w.alloc (.cells #[.int .i64 ((n : Nat) : Int), .slice x y z] 46)).cell? ⟨w.heap.size, 0, none⟩ = some (.int .i64 ((n : Nat) : Int)) := (Blk.new w _ _).cell rfl
  have HA0 := hid_of hA0
  clear hp hT hlow hL hA0
  go_enter Tryd.func35, Tryd.ntmps35
  go_wp2_with fail
  clear b0
  go_loopg [8] n (fun f i wr => ∃ k : Nat, i = .int .i64 ((k : Nat) : Int) ∧ k ≤ n ∧ Hid (k + f = n) ∧ Hid (G1 w wr n (.slice x y z) (upTo n k (fun q => ((q : Nat) : Int))) (upTo n k (fun _ => -1))))
  case atStart => exact ⟨0, rfl, Nat.zero_le _, Nat.zero_add _, by rw [upTo_zero, upTo_zero]; exact HA0.out⟩
  case round =>
    clear HA0
    obtain ⟨k, rfl, hk, HKF, HA⟩ := hrel
    have b0 : wr.cell? ⟨w.heap.size, 0, none⟩ = some (.int .i64 ((n : Nat) : Int)) := HA.out.box.cell rfl
    by_cases hlt : k < n
    · obtain ⟨v1, c1⟩ := cell_upTo HA.out.of_ hlt
      obtain ⟨v2, c2⟩ := cell_upTo HA.out.nx hlt
      have f1 := HA.out.of_.frozen k
      have f2 := HA.out.nx.frozen k
      have k0 : (0 : Int) ≤ ((k : Nat) : Int) := by omega
      have k1 : ((k : Nat) : Int) < ((n : Nat) : Int) := by omega
      have hA2 := (HA.out.setO k ((k : Nat) : Int)).setX k (-1)
      rw [upTo_set (fun q => ((q : Nat) : Int)) hlt, upTo_set (fun _ => -1) hlt] at hA2
      go_wp2_with fail
      go_roundg (n - (k + 1))
      case measure => have := HKF.out; omega
      case rel => exact ⟨k + 1, by go_num, by omega, by have := HKF.out; rw [Hid]; omega, hA2⟩
    · obtain rfl : k = n := by omega
      have hA1 := HA.out
      rw [upTo_all, upTo_all] at hA1
      have hlo3 : w.heap.size + 3 ≤ wr.heap.size := hA1.nx.lt
      have hG0 : GAt w (wr.alloc (.cells (arrB (List.replicate k false)) 4)) k (.slice x y z) wr.heap.size (List.range k) (List.replicate k (-1)) (List.replicate k false) := by
        refine ⟨?_, Blk.new wr _ _, hlo3⟩
        have := hA1.step ((Below.refl wr.heap.size wr).alloc (Nat.le_refl _) (.cells (arrB (List.replicate k false)) 4))
        have e : (List.range k).map (fun _ => (-1 : Int)) = List.replicate k (-1) := by
          apply List.ext_getElem?
          intro i
          by_cases hi : i < k
          · simp [hi]
          · simp [hi]
        rw [e] at this
        exact this
      have HG0 := hid_of hG0
      clear hG0 hA1 HA
      go_wp2_with fail
      generalize (wr.alloc (.cells (arrB (List.replicate k false)) 4)) = wA at *
      generalize wr.heap.size = ub at *
      clear b0 hlt hk
      go_loopg [10] l.length (fun f i wq => ∃ (j : Nat) (O : List Nat) (X : List Int) (U : List Bool) (bs : List (List Nat)), i = .int .i64 ((j : Nat) : Int) ∧ j ≤ l.length ∧ Hid (j + f = l.length) ∧ Hid (GAt w wq k (.slice x y z) ub O X U) ∧ Hid (GlOf k bs O X U) ∧ Hid (gluF k l (glInit k) = gluF k (l.drop j) bs))
      case atStart => exact ⟨0, _, _, _, _, rfl, Nat.zero_le _, Nat.zero_add _, HG0.out, GlOf.start k, rfl⟩
      case round =>
        clear HG0
        obtain ⟨j, O, X, U, bs, rfl, hj, HJF, HA, HG, HGL⟩ := hrel
        have b0 : wr.cell? ⟨w.heap.size, 0, none⟩ = some (.int .i64 ((k : Nat) : Int)) := HA.out.g1.box.cell rfl
        by_cases hlt : j < l.length
        · have j0 : (0 : Int) ≤ ((j : Nat) : Int) := by omega
          have j1 : ((j : Nat) : Int) < ((l.length : Nat) : Int) := by omega
          obtain ⟨s, o, rfl, hs⟩ := HP.out (by omega)
          obtain ⟨⟨a, b⟩, hx⟩ : ∃ x, l[j]? = some x := ⟨_, List.getElem?_eq_getElem hlt⟩
          have c0 := (hs.below HA.out.g1.below).fst j _ hx
          have c1 := (hs.below HA.out.g1.below).snd j _ hx
          have HE := hid_of (HGL.out.trans (gluF_step hx))
          have hfa := HG.out.free a
          have hfb := HG.out.free b
          simp only [] at c0 c1
          clear hx
          have HERRF : Hid (¬ (a ≠ b ∧ freeB k bs a = true ∧ freeB k bs b = true) → glueF L l = ([], 1)) := by
            intro hc
            have hlL := HLn.out
            have hn : gluF L.length l (glInit L.length) = none := by
              rw [← hlL]
              exact HE.out.trans (if_neg hc)
            unfold glueF glB
            rw [hn]
            rfl
          by_cases ha0 : a < 0
          · have hno : ¬ (a ≠ b ∧ freeB k bs a = true ∧ freeB k bs b = true) := by
              rintro ⟨_, h2, _⟩
              rw [hfa, Bool.and_eq_true] at h2
              have := of_decide_eq_true h2.1
              omega
            clear hfa hfb
            have HERR := hid_of (HERRF.out hno)
            clear HERRF HE
            go_wp2_with fail
            go_ret2
            exact ⟨by rw [HERR.out]; exact ⟨_, rfl, (fun e => absurd e (by decide)), fun _ => rfl⟩, HA.out.g1.below⟩
          · have a0 : ¬ a < 0 := ha0
            by_cases ha1 : (k : Int) ≤ a
            · have hno : ¬ (a ≠ b ∧ freeB k bs a = true ∧ freeB k bs b = true) := by
                rintro ⟨_, h2, _⟩
                rw [hfa, Bool.and_eq_true] at h2
                have := of_decide_eq_true h2.1
                omega
              clear hfa hfb
              have HERR := hid_of (HERRF.out hno)
              clear HERRF HE
              go_wp2_with fail
              go_ret2
              exact ⟨by rw [HERR.out]; exact ⟨_, rfl, (fun e => absurd e (by decide)), fun _ => rfl⟩, HA.out.g1.below⟩
            · have a1 : ¬ (k : Int) ≤ a := ha1
              by_cases hb0 : b < 0
              · have hno : ¬ (a ≠ b ∧ freeB k bs a = true ∧ freeB k bs b = true) := by
                  rintro ⟨_, _, h2⟩
                  rw [hfb, Bool.and_eq_true] at h2
                  have := of_decide_eq_true h2.1
                  omega
                clear hfa hfb
                have HERR := hid_of (HERRF.out hno)
                clear HERRF HE
                go_wp2_with fail
                go_ret2
                exact ⟨by rw [HERR.out]; exact ⟨_, rfl, (fun e => absurd e (by decide)), fun _ => rfl⟩, HA.out.g1.below⟩
              · have b00 : ¬ b < 0 := hb0
                by_cases hb1 : (k : Int) ≤ b
                · have hno : ¬ (a ≠ b ∧ freeB k bs a = true ∧ freeB k bs b = true) := by
                    rintro ⟨_, _, h2⟩
                    rw [hfb, Bool.and_eq_true] at h2
                    have := of_decide_eq_true h2.1
                    omega
                  clear hfa hfb
                  have HERR := hid_of (HERRF.out hno)
                  clear HERRF HE
                  go_wp2_with fail
                  go_ret2
                  exact ⟨by rw [HERR.out]; exact ⟨_, rfl, (fun e => absurd e (by decide)), fun _ => rfl⟩, HA.out.g1.below⟩
                · have b1 : ¬ (k : Int) ≤ b := hb1
                  obtain ⟨a', rfl⟩ : ∃ a' : Nat, a = ((a' : Nat) : Int) := ⟨a.toNat, by omega⟩
                  obtain ⟨b', rfl⟩ : ∃ b' : Nat, b = ((b' : Nat) : Int) := ⟨b.toNat, by omega⟩
                  rw [Int.toNat_natCast] at hfa hfb
                  have ha' : a' < k := by omega
                  have hb' : b' < k := by omega
                  have p0 : (0 : Int) ≤ ((a' : Nat) : Int) := by omega
                  have p1 : ((a' : Nat) : Int) < ((k : Nat) : Int) := by omega
                  have p2 : (0 : Int) ≤ ((b' : Nat) : Int) := by omega
                  have p3 : ((b' : Nat) : Int) < ((k : Nat) : Int) := by omega
                  by_cases hab : a' = b'
                  · have hno : ¬ (((a' : Nat) : Int) ≠ ((b' : Nat) : Int) ∧ freeB k bs ((a' : Nat) : Int) = true ∧ freeB k bs ((b' : Nat) : Int) = true) := fun hc => hc.1 (by rw [hab])
                    have q1 : (((a' : Nat) : Int) == ((b' : Nat) : Int)) = true := by simp [hab]
                    clear hfa hfb hab
                    have HERR := hid_of (HERRF.out hno)
                    clear HERRF HE
                    go_wp2_with fail
                    go_ret2
                    exact ⟨by rw [HERR.out]; exact ⟨_, rfl, (fun e => absurd e (by decide)), fun _ => rfl⟩, HA.out.g1.below⟩
                  · have q1 : (((a' : Nat) : Int) == ((b' : Nat) : Int)) = false := by rw [beq_eq_false_iff_ne]; omega
                    have ua := arrB_cell HA.out.us (i := a') (by rw [HG.out.lu]; exact ha')
                    have ub' := arrB_cell HA.out.us (i := b') (by rw [HG.out.lu]; exact hb')
                    cases hua : U.getD a' false
                    · cases hub : U.getD b' false
                      · rw [hua] at ua
                        rw [hub] at ub'
                        have HG2 := hid_of (HG.out.step ha' hb' hab hua hub)
                        have hok : ((a' : Nat) : Int) ≠ ((b' : Nat) : Int) ∧ freeB k bs ((a' : Nat) : Int) = true ∧ freeB k bs ((b' : Nat) : Int) = true := by
                          refine ⟨by omega, ?_, ?_⟩
                          · rw [hfa, hua, Bool.not_false, Bool.and_true]
                            exact decide_eq_true (by omega)
                          · rw [hfb, hub, Bool.not_false, Bool.and_true]
                            exact decide_eq_true (by omega)
                        have HE2 := hid_of (HE.out.trans (if_pos hok))
                        rw [Int.toNat_natCast, Int.toNat_natCast] at HE2
                        have hA2 := HA.out.pair a' b'
                        have uf1 := HA.out.us.frozen a'
                        have uf2 := HA.out.us.frozen b'
                        have o1 := cellI_getD HA.out.g1.of_ (i := b') (by rw [toI_length, HG.out.lo]; exact hb')
                        have of1 := HA.out.g1.of_.frozen b'
                        have n1 := cellI_getD HA.out.g1.nx (i := a') (by rw [HG.out.lx]; exact ha')
                        have nf1 := HA.out.g1.nx.frozen a'
                        have hlo := HA.out.lo
                        have s1 : ¬ ub = w.heap.size + 1 := by omega
                        have s2 : ¬ ub = w.heap.size + 2 := by omega
                        have s3 : ¬ b' = a' := fun e => hab e.symm
                        generalize (toI O).getD b' 0 = ov at *
                        generalize X.getD a' 0 = xv at *
                        clear HERRF HE hok hua hub hfa hfb
                        go_wp2_with fail
                        go_roundg (l.length - (j + 1))
                        case measure => have := HJF.out; omega
                        case rel => exact ⟨j + 1, _, _, _, _, by go_num, by omega, by have := HJF.out; rw [Hid]; omega, hA2, HG2.out, HE2.out⟩
                      · have hno : ¬ (((a' : Nat) : Int) ≠ ((b' : Nat) : Int) ∧ freeB k bs ((a' : Nat) : Int) = true ∧ freeB k bs ((b' : Nat) : Int) = true) := by
                          rintro ⟨_, _, h2⟩
                          rw [hfb, hub] at h2
                          simp at h2
                        rw [hua] at ua
                        rw [hub] at ub'
                        clear hfa hfb hua hub
                        have HERR := hid_of (HERRF.out hno)
                        clear HERRF HE
                        go_wp2_with fail
                        go_ret2
                        exact ⟨by rw [HERR.out]; exact ⟨_, rfl, (fun e => absurd e (by decide)), fun _ => rfl⟩, HA.out.g1.below⟩
                    · have hno : ¬ (((a' : Nat) : Int) ≠ ((b' : Nat) : Int) ∧ freeB k bs ((a' : Nat) : Int) = true ∧ freeB k bs ((b' : Nat) : Int) = true) := by
                        rintro ⟨_, h2, _⟩
                        rw [hfa, hua] at h2
                        simp at h2
                      rw [hua] at ua
                      clear hfa hfb hua
                      have HERR := hid_of (HERRF.out hno)
                      clear HERRF HE
                      go_wp2_with fail
                      go_ret2
                      exact ⟨by rw [HERR.out]; exact ⟨_, rfl, (fun e => absurd e (by decide)), fun _ => rfl⟩, HA.out.g1.below⟩
        · obtain rfl : j = l.length := by omega
          have HBS : Hid (gluF k l (glInit k) = some bs) := by
            rw [Hid, HGL.out, List.drop_length]
            rfl
          have hrn := refNew_calls ((k : Nat) : Int) wr
          have hck : clampN ((k : Nat) : Int) = k := by unfold clampN; omega
          rw [hck] at hrn
          have HRN := hid_of hrn
          clear hrn hck HGL
          go_wp2_with fail
          refine HRN.out.mono ?_
          rintro e w2 ⟨M2, rb2, rfl, hM2, hB2⟩
          obtain ⟨x2, y2, z2, rfl⟩ := hM2.slice
          have hG2 := HA.out.step hB2
          have hb2s := hB2.size
          have hubl : ub < wr.heap.size := HA.out.us.lt
          have hbA := (Below.refl w2.heap.size w2).alloc (Nat.le_refl _) (.cells #[.int .i64 ((k : Nat) : Int), .slice x2 y2 z2] 46)
          have hG3 : G3 w (w2.alloc (.cells #[.int .i64 ((k : Nat) : Int), .slice x2 y2 z2] 46)) k (.slice x y z) ub O X U w2.heap.size wr.heap.size (.slice x2 y2 z2) rb2 (fun _ _ => false) :=
            ⟨hG2.step hbA, hM2.below hbA, Blk.new w2 _ _, by omega, fun q hq => (hM2.row q hq).2.lt, fun g hg => (hM2.own.lt g hg).2⟩
          have HG3 := hid_of hG3
          clear HRN hG2 hM2 hbA hG3 HA hB2
          go_wp2_with fail
          generalize (w2.alloc (.cells #[.int .i64 ((k : Nat) : Int), .slice x2 y2 z2] 46)) = wB at *
          generalize w2.heap.size = sb at *
          generalize wr.heap.size = lo2 at *
          clear b0
          go_loopg [14] k (fun f i wq => ∃ (pp : Nat) (S : Nat → Nat → Bool), i = .int .i64 ((pp : Nat) : Int) ∧ pp ≤ k ∧ Hid (pp + f = k) ∧ Hid (G3 w wq k (.slice x y z) ub O X U sb lo2 (.slice x2 y2 z2) rb2 S) ∧ Hid (SmK k F O X pp 0 S))
          case atStart => exact ⟨0, _, rfl, Nat.zero_le _, Nat.zero_add _, HG3.out, SmK.start k F O X⟩
          case round =>
            clear HG3
            obtain ⟨pp, S, rfl, hpp, HPF, HA, HS⟩ := hrel
            have b0 : wr.cell? ⟨w.heap.size, 0, none⟩ = some (.int .i64 ((k : Nat) : Int)) := HA.out.g.g1.box.cell rfl
            by_cases hlt : pp < k
            · have P0 : (0 : Int) ≤ ((pp : Nat) : Int) := by omega
              have P1 : ((pp : Nat) : Int) < ((k : Nat) : Int) := by omega
              go_wp2_with fail
              clear b0
              go_loopg [15] k (fun f i wq => ∃ (q : Nat) (S : Nat → Nat → Bool), i = .int .i64 ((q : Nat) : Int) ∧ q ≤ k ∧ Hid (q + f = k) ∧ Hid (G3 w wq k (.slice x y z) ub O X U sb lo2 (.slice x2 y2 z2) rb2 S) ∧ Hid (SmK k F O X pp q S))
              case atStart => exact ⟨0, S, rfl, Nat.zero_le _, Nat.zero_add _, HA.out, HS.out⟩
              case round =>
                clear HA HS
                obtain ⟨q, S, rfl, hqk, HQF, HA, HS⟩ := hrel
                have b0 : wr.cell? ⟨w.heap.size, 0, none⟩ = some (.int .i64 ((k : Nat) : Int)) := HA.out.g.g1.box.cell rfl
                have b1 : wr.cell? ⟨w.heap.size, 1, none⟩ = some (.slice x y z) := HA.out.g.g1.box.cell rfl
                by_cases hql : q < k
                · have Q0 : (0 : Int) ≤ ((q : Nat) : Int) := by omega
                  have Q1 : ((q : Nat) : Int) < ((k : Nat) : Int) := by omega
                  obtain ⟨g, cap', e, m1, m2, m3, m4, m5, m6, m7⟩ := (h.below HA.out.g.g1.below).at_ hlt hql
                  obtain ⟨hx1, hx2, hx3⟩ : some ⟨g, 0, none⟩ = x ∧ k = y ∧ cap' = z := by cases e; exact ⟨rfl, rfl, rfl⟩
                  subst hx1 hx2 hx3
                  clear e
                  have nc := cellI_getD HA.out.g.g1.nx (i := pp) (by rw [HG.out.lx]; exact hlt)
                  cases hF : F pp q
                  · rw [hF] at m5
                    have HS2 := hid_of (HS.out.no (fun hc => by rw [hF] at hc; cases hc.1))
                    clear hF nc
                    go_wp2_with fail
                    go_roundg (k - (q + 1))
                    case measure => have := HQF.out; omega
                    case rel => exact ⟨q + 1, S, by go_num, by omega, by have := HQF.out; rw [Hid]; omega, HA.out, HS2.out⟩
                  · rw [hF] at m5
                    by_cases hX : X.getD pp 0 = ((q : Nat) : Int)
                    · have HS2 := hid_of (HS.out.no (fun hc => hc.2 hX))
                      rw [hX] at nc
                      have q1 : (((q : Nat) : Int) == ((q : Nat) : Int)) = true := by simp
                      clear hF hX
                      go_wp2_with fail
                      go_roundg (k - (q + 1))
                      case measure => have := HQF.out; omega
                      case rel => exact ⟨q + 1, S, by go_num, by omega, by have := HQF.out; rw [Hid]; omega, HA.out, HS2.out⟩
                    · have q1 : (X.getD pp 0 == ((q : Nat) : Int)) = false := by rw [beq_eq_false_iff_ne]; exact hX
                      have HS2 := hid_of (HS.out.yes hlt hql hF hX)
                      have hu := (HG.out.unit hlt).1
                      have hv2 := (HG.out.unit hql).1
                      obtain ⟨g2, cap2, e2, t1, t2, t3, t4, t5, t6, t7⟩ := HA.out.sm.at_ hu hv2
                      obtain ⟨hx1, hx2, hx3⟩ : some ⟨g2, 0, none⟩ = x2 ∧ k = y2 ∧ cap2 = z2 := by cases e2; exact ⟨rfl, rfl, rfl⟩
                      subst hx1 hx2 hx3
                      clear e2
                      have o1 := cellI_getD HA.out.g.g1.of_ (i := pp) (by rw [toI_length, HG.out.lo]; exact hlt)
                      have o2 := cellI_getD HA.out.g.g1.of_ (i := q) (by rw [toI_length, HG.out.lo]; exact hql)
                      rw [toI_getD] at o1 o2
                      have s1 : wr.cell? ⟨sb, 1, none⟩ = some (.slice (some ⟨g2, 0, none⟩) k cap2) := HA.out.sbx.cell rfl
                      have hA2 := HA.out.put hu hv2
                      have hr1 := (HA.out.sm.row _ hu).1
                      have hr2 := HA.out.rlt _ hu
                      have hr3 := HA.out.lo
                      have hr4 := HA.out.g.lo
                      generalize O.getD pp 0 = u at *
                      generalize O.getD q 0 = vv at *
                      generalize X.getD pp 0 = xv at *
                      have y1 : ((wr.setCell ⟨rb2 u, vv, none⟩ (.bool true)).drew).cell? ⟨sb, 1, none⟩ = some (.slice (some ⟨g2, 0, none⟩) k cap2) := (World.cell?_setCell_far wr ⟨rb2 u, vv, none⟩ ⟨sb, 1, none⟩ _ (by show rb2 u ≠ sb; omega)).trans s1
                      have y2 : ((wr.setCell ⟨rb2 u, vv, none⟩ (.bool true)).drew).cell? ⟨w.heap.size + 1, pp, none⟩ = some (.int .i64 ((u : Nat) : Int)) := (World.cell?_setCell_far wr ⟨rb2 u, vv, none⟩ ⟨w.heap.size + 1, pp, none⟩ _ (by show rb2 u ≠ w.heap.size + 1; omega)).trans o1
                      have y3 : ((wr.setCell ⟨rb2 u, vv, none⟩ (.bool true)).drew).cell? ⟨w.heap.size + 1, q, none⟩ = some (.int .i64 ((vv : Nat) : Int)) := (World.cell?_setCell_far wr ⟨rb2 u, vv, none⟩ ⟨w.heap.size + 1, q, none⟩ _ (by show rb2 u ≠ w.heap.size + 1; omega)).trans o2
                      have y4 : ((wr.setCell ⟨rb2 u, vv, none⟩ (.bool true)).drew).cell? ⟨g2, u, none⟩ = some (hdr k (rb2 u)) := (World.cell?_setCell_far wr ⟨rb2 u, vv, none⟩ ⟨g2, u, none⟩ _ t3).trans t4
                      have HY := hid_of (And.intro y1 (And.intro y2 (And.intro y3 y4)))
                      have U0 : (0 : Int) ≤ ((u : Nat) : Int) := by omega
                      have U1 : ((u : Nat) : Int) < ((k : Nat) : Int) := by omega
                      have V0 : (0 : Int) ≤ ((vv : Nat) : Int) := by omega
                      have V1 : ((vv : Nat) : Int) < ((k : Nat) : Int) := by omega
                      clear y1 y2 y3 y4 hF hX HS
                      go_wp2_with fail
                      go_region_held3 (fun w' => w'.cell? ⟨sb, 1, none⟩ = some (.slice (some ⟨g2, 0, none⟩) k cap2) ∧ w'.cell? ⟨w.heap.size + 1, pp, none⟩ = some (.int .i64 ((u : Nat) : Int)) ∧ w'.cell? ⟨w.heap.size + 1, q, none⟩ = some (.int .i64 ((vv : Nat) : Int)) ∧ w'.cell? ⟨g2, u, none⟩ = some (hdr k (rb2 u))) (first | assumption | exact ⟨s1, o1, o2, t4⟩ | exact HY.out) (fail)
                      rename_i hHeld
                      clear hHeld
                      have hA3 := hA2.step (Below.refl _ _).drew
                      go_wp2_with fail
                      go_roundg (k - (q + 1))
                      case measure => have := HQF.out; omega
                      case rel => exact ⟨q + 1, _, by go_num, by omega, by have := HQF.out; rw [Hid]; omega, hA3, HS2.out⟩
                · obtain rfl : q = k := by omega
                  have HS2 := hid_of HS.out.row
                  go_wp2_with fail
                  go_roundg (q - (pp + 1))
                  case measure => have := HPF.out; omega
                  case rel => exact ⟨pp + 1, S, by go_num, by omega, by have := HPF.out; rw [Hid]; omega, HA.out, HS2.out⟩
            · obtain rfl : pp = k := by omega
              have hSm : RefM lo2 wr (.slice x2 y2 z2) pp pp rb2 (SmU pp F O X) := HA.out.sm.congr (fun u v _ _ => HS.out.done u v)
              have hG3 : G3 w wr pp (.slice x y z) ub O X U sb lo2 (.slice x2 y2 z2) rb2 (SmU pp F O X) := ⟨HA.out.g, hSm, HA.out.sbx, HA.out.lo, HA.out.rlt, HA.out.mlt⟩
              have hsbl : sb < wr.heap.size := HA.out.sbx.lt
              have hbA := (Below.refl wr.heap.size wr).alloc (Nat.le_refl _) (.cells (arrB (List.replicate pp false)) 4)
              have hG5 : G5 w (wr.alloc (.cells (arrB (List.replicate pp false)) 4)) pp (.slice x y z) ub O X U sb lo2 (.slice x2 y2 z2) rb2 (SmU pp F O X) wr.heap.size (doneL pp []) (.slice none 0 0) [] := by
                refine ⟨hG3.step hbA, ?_, World.ownsRow_nil _ _ _ _, hsbl⟩
                rw [doneL_nil]
                exact Blk.new wr _ _
              have HG5 := hid_of hG5
              clear hG3 hSm hG5 HA HS hbA
              go_wp2_with fail
              generalize (wr.alloc (.cells (arrB (List.replicate pp false)) 4)) = wC at *
              generalize wr.heap.size = db at *
              clear b0
              go_loopg [17] (fsts pp O).length (fun f vl wq => ∃ (pts : List Nat), Hid (pts.length + f = (fsts pp O).length) ∧ Hid (pts.Nodup ∧ (∀ i ∈ pts, i < (fsts pp O).length) ∧ (∀ i ∈ pts, ∀ u, (fsts pp O)[i]? = some u → SmU pp F O X u u = false)) ∧ Hid ((∀ u, u < L.length → SmU L.length F O X u u = false) → SrtAt (betw L (bs.filter (fun b => !b.isEmpty))) pts.length pts) ∧ Hid (G5 w wq pp (.slice x y z) ub O X U sb lo2 (.slice x2 y2 z2) rb2 (SmU pp F O X) db (doneL pp (laidU bs (fsts pp O) pts)) vl (laidU bs (fsts pp O) pts)))
              case atStart => exact ⟨[], Nat.zero_add _, ⟨List.nodup_nil, fun i hi => absurd hi (by simp), fun i hi => absurd hi (by simp)⟩, fun _ => SrtAt.begin _, HG5.out⟩
              case round =>
                clear HG5
                obtain ⟨pts, HPF, HN, HSR, HA⟩ := hrel
                have hpL := HLn.out
                have HGL := HG.out
                have HBL := HBS.out
                have HNL := HN.out
                rw [hpL] at HGL HBL HNL
                have HGLh := hid_of HGL
                have HBLh := hid_of HBL
                have HNLh := hid_of HNL
                have b0 : wr.cell? ⟨w.heap.size, 0, none⟩ = some (.int .i64 ((pp : Nat) : Int)) := HA.out.g.g.g1.box.cell rfl
                have hll : (laidU bs (fsts pp O) pts).length ≤ pp := by
                  have := sub_len (laidU bs (fsts L.length O) pts) (List.range L.length) (laidU_nodup HGL pts HNL.1 HNL.2.1) (fun x hx => List.mem_range.2 (laidU_lt HGL HNL.2.1 x hx))
                  rw [List.length_range] at this
                  rw [hpL]
                  exact this
                obtain ⟨ls, hls⟩ : ∃ ls, ls = laidU bs (fsts pp O) pts := ⟨_, rfl⟩
                rw [← hls] at HA hll
                have HLS := hid_of hls
                clear hls HGL HBL HNL hpL
                obtain ⟨vx, vz, rfl⟩ : ∃ vx vz, u17 = .slice vx ls.length vz := by
                  rcases HA.out.own.2 with ⟨e1, e2⟩ | ⟨g', cap, cur, e1, _⟩
                  · exact ⟨none, 0, by rw [e1, e2]⟩
                  · exact ⟨_, _, e1⟩
                by_cases hlt : ls.length < pp
                · have t1 : ((ls.length : Nat) : Int) < ((pp : Nat) : Int) := by omega
                  go_wp2_with fail
                  clear b0
                  go_loopg [18, 19] pp (fun f nx i wq => ∃ (q : Nat) (nv : Int), nx = .int .i64 nv ∧ i = .int .i64 (((q : Nat) : Int) - 1) ∧ q ≤ pp ∧ Hid (q = f) ∧ Hid (LeastP (fun p => O.getD p 0 == p && freeF pp (SmU pp F O X) (doneL pp ls) p) pp q nv) ∧ Hid (G5 w wq pp (.slice x y z) ub O X U sb lo2 (.slice x2 y2 z2) rb2 (SmU pp F O X) db (doneL pp ls) (.slice vx ls.length vz) ls))
                  case atStart => exact ⟨pp, -1, rfl, rfl, Nat.le_refl _, rfl, LeastP.start _ _, HA.out⟩
                  case round =>
                    clear HA
                    obtain ⟨q, nv, rfl, rfl, hq, HQF, HLP, HA⟩ := hrel
                    by_cases hq0 : 0 < q
                    · obtain ⟨q', rfl⟩ : ∃ q', q = q' + 1 := ⟨q - 1, by omega⟩
                      have eq1 : (((q' + 1 : Nat) : Int)) - 1 = ((q' : Nat) : Int) := by omega
                      rw [eq1]
                      have g0 : (0 : Int) ≤ ((q' : Nat) : Int) := by omega
                      have g1 : ((q' : Nat) : Int) < ((pp : Nat) : Int) := by omega
                      have oc := cellI_getD HA.out.g.g.g1.of_ (i := q') (by rw [toI_length, HG.out.lo]; omega)
                      rw [toI_getD] at oc
                      by_cases hO : O.getD q' 0 = q'
                      · rw [hO] at oc
                        have o1 : (((q' : Nat) : Int) == ((q' : Nat) : Int)) = true := by simp
                        have s0 : wr.cell? ⟨sb, 0, none⟩ = some (.int .i64 ((pp : Nat) : Int)) := HA.out.g.sbx.cell rfl
                        have s1 : wr.cell? ⟨sb, 1, none⟩ = some (.slice x2 y2 z2) := HA.out.g.sbx.cell rfl
                        have hf := r2free_calls lo2 pp hn x2 y2 z2 rb2 (SmU pp F O X) (doneL pp ls) db q' wr HA.out.g.sm HA.out.don (doneL_length _ _) (by omega)
                        cases hfr : freeF pp (SmU pp F O X) (doneL pp ls) q'
                        · rw [hfr] at hf
                          have HL2 := hid_of (HLP.out.no (by rw [hfr, Bool.and_false]))
                          clear hfr hO
                          go_wp2_with fail
                          refine hf.mono ?_
                          rintro e w3 ⟨rfl, hB3⟩
                          have hA3 := HA.out.step hB3
                          clear hf oc s0 s1
                          go_wp2_with fail
                          go_roundg q'
                          case measure => have := HQF.out; omega
                          case rel => exact ⟨q', nv, rfl, by go_num, by omega, rfl, HL2.out, hA3⟩
                        · rw [hfr] at hf
                          have HL2 : Hid (LeastP (fun p => O.getD p 0 == p && freeF pp (SmU pp F O X) (doneL pp ls) p) pp q' ((q' : Nat) : Int)) := LeastP.yes (by omega) (by rw [hfr, hO, beq_self_eq_true]; rfl)
                          clear hfr hO
                          go_wp2_with fail
                          refine hf.mono ?_
                          rintro e w3 ⟨rfl, hB3⟩
                          have hA3 := HA.out.step hB3
                          clear hf oc s0 s1
                          go_wp2_with fail
                          go_roundg q'
                          case measure => have := HQF.out; omega
                          case rel => exact ⟨q', ((q' : Nat) : Int), rfl, by go_num, by omega, rfl, HL2.out, hA3⟩
                      · have o1 : (((O.getD q' 0 : Nat) : Int) == ((q' : Nat) : Int)) = false := by rw [beq_eq_false_iff_ne]; omega
                        have HL2 := hid_of (HLP.out.no (by rw [show (O.getD q' 0 == q') = false by rw [beq_eq_false_iff_ne]; exact hO]; rfl))
                        generalize O.getD q' 0 = ov at *
                        clear hO
                        go_wp2_with fail
                        go_roundg q'
                        case measure => have := HQF.out; omega
                        case rel => exact ⟨q', nv, rfl, by go_num, by omega, rfl, HL2.out, HA.out⟩
                    · obtain rfl : q = 0 := by omega
                      have hm1 : ¬ (0 : Int) ≤ ((0 : Nat) : Int) - 1 := by omega
                      have hptl : pts.length < (fsts L.length O).length := by
                        have hpL := HLn.out
                        have h1 := HPF.out
                        have h2 := (laidU_all HGLh.out HNLh.out.1 HNLh.out.2.1).2
                        have h3 := HLS.out
                        rw [hpL] at h1 h3 hlt
                        rw [← h3] at h2
                        omega
                      have HLF : Hid ((∀ u, u < L.length → SmU L.length F O X u u = false) → (nv = -1 ∧ fz (wAll (betw L (bs.filter (fun b => !b.isEmpty))).length (pairsL (betw L (bs.filter (fun b => !b.isEmpty)))) pts) < 0) ∨ (∃ (j u : Nat), nv = (u : Int) ∧ (fsts L.length O)[j]? = some u ∧ fz (wAll (betw L (bs.filter (fun b => !b.isEmpty))).length (pairsL (betw L (bs.filter (fun b => !b.isEmpty)))) pts) = (j : Int))) := by
                        intro hgood
                        have hpL := HLn.out
                        have hh := HLP.out
                        have h3 := HLS.out
                        rw [h3, hpL] at hh
                        exact least_same HGLh.out HT.out (by omega) HLW.out hgood HNLh.out.2.1 hh
                      by_cases hneg : nv < 0
                      · have HEQ : Hid (glueF L l = ([], 3)) := by
                          have hpL := HLn.out
                          refine glue_stuck HBLh.out HGLh.out HT.out (by omega) HLW.out HSR.out hptl ?_
                          intro hgood
                          rcases HLF.out hgood with ⟨_, h2⟩ | ⟨j, u, h1, _⟩
                          · exact h2
                          · omega
                        clear hptl
                        go_wp2_with fail
                        go_ret2
                        exact ⟨by rw [HEQ.out]; exact ⟨_, rfl, fun e => absurd e (by decide), fun _ => rfl⟩, HA.out.g.g.g1.below⟩
                      · obtain ⟨u, rfl⟩ : ∃ u : Nat, nv = ((u : Nat) : Int) := ⟨nv.toNat, by omega⟩
                        have hLPo := HLP.out
                        rcases hLPo with ⟨e, _⟩ | ⟨u', e, _, hup, hPu, _⟩
                        · omega
                        obtain rfl : u' = u := by omega
                        simp only [] at hPu
                        rw [Bool.and_eq_true, beq_iff_eq] at hPu
                        obtain ⟨hOu, hfu⟩ := hPu
                        have hDu : (doneL pp ls).getD u' false = false := by
                          unfold freeF at hfu
                          rw [Bool.and_eq_true, Bool.not_eq_true'] at hfu
                          exact hfu.1
                        have hgu : SmU pp F O X u' u' = false := by
                          rw [Bool.eq_false_iff]
                          intro hb
                          rw [bad_stays hup hb] at hfu
                          cases hfu
                        obtain ⟨j, hj⟩ := List.getElem?_of_mem (fsts_mem.2 ⟨hup, hOu⟩)
                        have hjl := (List.getElem?_eq_some_iff.1 hj).1
                        have hjn : j ∉ pts := by
                          intro hjp
                          have h1 := (laidU_mem HG.out HN.out.2.1 hup hj hOu).2 hjp
                          rw [← HLS.out] at h1
                          rw [doneL_at _ hup] at hDu
                          rw [List.contains_iff_mem.2 h1] at hDu
                          cases hDu
                        have HN2 : Hid ((pts ++ [j]).Nodup ∧ (∀ i ∈ pts ++ [j], i < (fsts pp O).length) ∧ (∀ i ∈ pts ++ [j], ∀ u, (fsts pp O)[i]? = some u → SmU pp F O X u u = false)) := by
                          refine ⟨?_, ?_, ?_⟩
                          · rw [List.nodup_append]
                            refine ⟨HN.out.1, by simp, ?_⟩
                            intro a ha b hb hab
                            simp at hb
                            subst hb
                            subst hab
                            exact hjn ha
                          · intro i hi
                            rcases List.mem_append.1 hi with hi | hi
                            · exact HN.out.2.1 i hi
                            · simp at hi
                              subst hi
                              exact hjl
                          · intro i hi v hv
                            rcases List.mem_append.1 hi with hi | hi
                            · exact HN.out.2.2 i hi v hv
                            · simp at hi
                              subst hi
                              rw [hj] at hv
                              rw [← Option.some.inj hv]
                              exact hgu
                        have HSR2 : Hid ((∀ u, u < L.length → SmU L.length F O X u u = false) → SrtAt (betw L (bs.filter (fun b => !b.isEmpty))) (pts ++ [j]).length (pts ++ [j])) := by
                          intro hgood
                          have hpL := HLn.out
                          have hbl : (betw L (bs.filter (fun b => !b.isEmpty))).length = (fsts L.length O).length := by rw [betw_length, HGLh.out.blocks, List.length_map]
                          rcases HLF.out hgood with ⟨h1, _⟩ | ⟨j', v, h1, h2, h3⟩
                          · omega
                          · obtain rfl : v = u' := by omega
                            rw [hpL] at hj
                            obtain rfl : j' = j := rise_inj (fsts_rise L.length O) h2 hj
                            have := (HSR.out hgood).next (by omega) h3
                            rw [List.length_append]
                            exact this
                        have HLA : Hid (laidU bs (fsts pp O) (pts ++ [j]) = ls ++ bs.getD u' []) := by
                          rw [Hid, laidU_snoc, ← HLS.out]
                          have : (fsts pp O).getD j 0 = u' := by rw [List.getD_eq_getElem?_getD, hj]; rfl
                          rw [this]
                        have U0 : (0 : Int) ≤ ((u' : Nat) : Int) := by omega
                        have U1 : ((u' : Nat) : Int) < ((pp : Nat) : Int) := by omega
                        have d0 := arrB_cell HA.out.don (i := u') (by rw [doneL_length]; exact hup)
                        rw [hDu] at d0
                        have f0 := HA.out.don.frozen u'
                        have hA1 := HA.out.mark u'
                        rw [doneL_set] at hA1
                        have HC2 := hid_of (HG.out.cases2 hup hOu)
                        have hneg' : ¬ ((u' : Nat) : Int) < 0 := by omega
                        have hdbl := HA.out.don.lt
                        clear HLP HLF hfu hDu hgu hjn hj hjl hOu HSR HN
                        go_upto_region 41 with fail
                        generalize wr.setCell ⟨db, u', none⟩ (.bool true) = W1 at *
                        clear d0 f0
                        have hW1l := hA1.don.lt
                        go_upto_region 42 with (at_builtin; refine wpList_append_own_at _ rfl _ _ 29 rfl (db + 1) 3 i0 (.int .i64 0) 1 8 Tryd.underlying29 hi hz0 hz1 hz2 rfl (by decide) (.slice vx ls.length vz) ls.length (encN ls) rfl (hA1.own.alloc _) ⟨_, 0, none⟩ 1 1 [.int .i64 ((u' : Nat) : Int)] rfl rfl (news_int W1 u') (by simp [Value.oneCell']) (by unfold maxLen; omega) (by omega) (by simp; omega) ?_; intro v2 w5 hown' hgrow _ _; have hA5 := hA1.more hown' hgrow; clear hown' hgrow)
                        rcases HC2.out with ⟨c1, c2⟩ | ⟨xn, c1, c2, c3, c4, c5⟩
                        · have nc := cellI_getD hA5.g.g.g1.nx (i := u') (by rw [HG.out.lx]; exact hup)
                          rw [c2] at nc
                          have hAF : G5 w w5 pp (.slice x y z) ub O X U sb lo2 (.slice x2 y2 z2) rb2 (SmU pp F O X) db (doneL pp (laidU bs (fsts pp O) (pts ++ [j]))) v2 (laidU bs (fsts pp O) (pts ++ [j])) := by
                            rw [HLA.out, c1]
                            exact hA5
                          clear c1 c2 hA1
                          go_wp2_with fail
                          go_roundg ((fsts pp O).length - (pts.length + 1))
                          case measure => have := HPF.out; have hpL := HLn.out; rw [hpL] at this; rw [hpL]; omega
                          case rel => exact ⟨pts ++ [j], by have := HPF.out; have hpL := HLn.out; rw [hpL] at this; rw [Hid, hpL, List.length_append]; simp; omega, HN2.out, HSR2.out, hAF⟩
                        · have nc := cellI_getD hA5.g.g.g1.nx (i := u') (by rw [HG.out.lx]; exact hup)
                          rw [c2] at nc
                          have X0 : (0 : Int) ≤ ((xn : Nat) : Int) := by omega
                          have X1 : ((xn : Nat) : Int) < ((pp : Nat) : Int) := by omega
                          have d5 := arrB_cell hA5.don (i := xn) (by rw [doneL_length]; exact c4)
                          have f5 := hA5.don.frozen xn
                          have hA6 := hA5.mark xn
                          rw [doneL_set] at hA6
                          generalize (doneL pp (ls ++ [u'])).getD xn false = dv at *
                          have n5 : (w5.setCell ⟨db, xn, none⟩ (.bool true)).cell? ⟨w.heap.size + 2, u', none⟩ = some (.int .i64 ((xn : Nat) : Int)) := by
                            have := cellI_getD hA6.g.g.g1.nx (i := u') (by rw [HG.out.lx]; exact hup)
                            rw [c2] at this
                            exact this
                          have hl1 : (ls ++ [u']).length = ls.length + 1 := by rw [List.length_append]; rfl
                          obtain ⟨ls1, hls1⟩ : ∃ ls1, ls1 = ls ++ [u'] := ⟨_, rfl⟩
                          rw [← hls1] at hA5 hA6 hl1
                          have HL1 := hid_of hls1
                          have HLL := hid_of hl1
                          obtain ⟨vx2, vz2, rfl⟩ : ∃ vx vz, v2 = .slice vx ls1.length vz := by
                            rcases hA5.own.2 with ⟨e1, e2⟩ | ⟨g', cap, cur, e1, _⟩
                            · exact ⟨none, 0, by rw [e1, e2]⟩
                            · exact ⟨_, _, e1⟩
                          clear hls1 hl1 c2 hA1
                          go_upto_region 44 with fail
                          generalize w5.setCell ⟨db, xn, none⟩ (.bool true) = W6 at *
                          clear d5 f5 nc hA5
                          have hW6l := hA6.don.lt
                          go_wp2_with (at_builtin; refine wpList_append_own_at _ rfl _ _ 29 rfl (db + 1) 3 i0 (.int .i64 0) 1 8 Tryd.underlying29 hi hz0 hz1 hz2 rfl (by decide) (.slice vx2 ls1.length vz2) ls1.length (encN ls1) rfl (hA6.own.alloc _) ⟨_, 0, none⟩ 1 1 [.int .i64 ((xn : Nat) : Int)] rfl rfl (news_int W6 xn) (by simp [Value.oneCell']) (by have := HLL.out; unfold maxLen; omega) (by have := HLL.out; omega) (by simp; omega) ?_; intro v3 w7 hown' hgrow _ _; have hA7 := hA6.more hown' hgrow; clear hown' hgrow)
                          have hAF : G5 w w7 pp (.slice x y z) ub O X U sb lo2 (.slice x2 y2 z2) rb2 (SmU pp F O X) db (doneL pp (laidU bs (fsts pp O) (pts ++ [j]))) v3 (laidU bs (fsts pp O) (pts ++ [j])) := by
                            rw [HLA.out, c1]
                            have e1 : ls ++ [u', xn] = ls1 ++ [xn] := by rw [HL1.out, List.append_assoc]; rfl
                            rw [e1]
                            exact hA7
                          go_roundg ((fsts pp O).length - (pts.length + 1))
                          case measure => have := HPF.out; have hpL := HLn.out; rw [hpL] at this; rw [hpL]; omega
                          case rel => exact ⟨pts ++ [j], by have := HPF.out; have hpL := HLn.out; rw [hpL] at this; rw [Hid, hpL, List.length_append]; simp; omega, HN2.out, HSR2.out, hAF⟩
                · have t1 : ¬ ((ls.length : Nat) : Int) < ((pp : Nat) : Int) := by omega
                  have HEQ : Hid (glueF L l = (ls, 0)) := by
                    have hpL := HLn.out
                    have hsz : L.length ≤ (laidU bs (fsts L.length O) pts).length := by
                      have := HLS.out
                      rw [hpL] at this hlt
                      rw [← this]
                      omega
                    have := glue_full HBLh.out HGLh.out HT.out (by omega) HLW.out HNLh.out.1 HNLh.out.2.1 HNLh.out.2.2 HSR.out hsz
                    rw [Hid, this, HLS.out, hpL]
                  have hlo5 := HA.out.lo
                  have hlo3 := HA.out.g.lo
                  have hlo2' := HA.out.g.g.lo
                  go_wp2_with fail
                  go_ret2
                  exact ⟨by rw [HEQ.out]; exact ⟨_, rfl, fun _ => owns_lo HA.out.own (by omega), fun e => absurd rfl e⟩, HA.out.g.g.g1.below⟩
end Go.Proofs.YtmmgdeoballhpaaDoor
