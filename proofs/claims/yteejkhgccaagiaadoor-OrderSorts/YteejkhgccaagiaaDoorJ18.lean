/- The reference's free. -/
import Derived.Test.YteejkhgccaagiaaDoorJ13
import Derived.Test.YteejkhgccaagiaaDoorJ17
namespace Go.Proofs.YteejkhgccaagiaaDoor
open Go.RowKit Go.Shelf Sx

def freeF (n : Nat) (F : Nat → Nat → Bool) (D : List Bool) (p : Nat) : Bool := !(D.getD p false) && (List.range n).all (fun a => !(F a p && !(D.getD a false)))
theorem arrB_cell {w : World} {g : Nat} {D : List Bool} (h : Blk w g 4 (arrB D)) {i : Nat} (hi : i < D.length) : w.cell? ⟨g, i, none⟩ = some (.bool (D.getD i false)) := h.cell (by simp [arrB, List.getD, hi])
set_option maxRecDepth 100000 in
set_option maxHeartbeats 2000000 in
theorem r2free_calls (lo n : Nat) (hn : n ≤ 256) (x : Option Addr) (y z : Nat) (rb : Nat → Nat) (F : Nat → Nat → Bool) (D : List Bool) (g p : Nat) (w : World) (h : RefM lo w (.slice x y z) n n rb F) (hD : Blk w g 4 (arrB D)) (hDn : D.length = n) (hp : p < n) :
    Calls Tryd.prog 53 #[.agg #[.int .i64 ((n : Nat) : Int), .slice x y z], .slice (some ⟨g, 0, none⟩) n n, .int .i64 p] w fun e w' => e = .returned (.bool (freeF n F D p)) ∧ Below w.heap.size w w' := by
  have d0 := cellA' (arrB_cell hD (i := p) (by omega)) (.cells #[.int .i64 ((n : Nat) : Int), .slice x y z] 46)
  have p0 : (0 : Int) ≤ (p : Int) := by omega
  have p1 : (p : Int) < (n : Int) := by omega
  have hb := Blk.new w 46 #[.int .i64 ((n : Nat) : Int), .slice x y z]
  have hBA := (Below.refl w.heap.size w).alloc (Nat.le_refl _) (.cells #[.int .i64 ((n : Nat) : Int), .slice x y z] 46)
  have HB0 := hid_of hb
  cases hd : D.getD p false
  · rw [hd] at d0
    have er : freeF n F D p = (List.range n).all (fun a => !(F a p && !(D.getD a false))) := by unfold freeF; rw [hd]; rfl
    rw [er]
    generalize hr : (List.range n).all (fun a => !(F a p && !(D.getD a false))) = r
    have HR := hid_of hr
    clear er hr hd
    go_enter Tryd.func53, Tryd.ntmps53
    go_wp2_with fail
    go_loopw [7] (fun i wr => ∃ a : Nat, a ≤ n ∧ i = .int .i64 a ∧ Hid (∀ j, j < a → (F j p && !(D.getD j false)) = false) ∧ Below (w.heap.size + 1) (w.alloc (.cells #[.int .i64 ((n : Nat) : Int), .slice x y z] 46)) wr) (fun i _ => n - (intOf i).toNat)
    case atStart => exact ⟨0, by omega, rfl, fun j hj => by omega, Below.refl _ _⟩
    case round =>
      obtain ⟨a, ha, rfl, HC, hBl⟩ := hrel
      have hbr := HB0.out.below hBl (by omega)
      have b0 := hbr.cell (j := 0) rfl
      have b1 := hbr.cell (j := 1) rfl
      have hBw : Below w.heap.size w wr := hBA.trans (hBl.mono (by omega))
      by_cases hlt : a < n
      · obtain ⟨gm, cap, hM, _, _, _, m1, m2, _, _⟩ := (h.below hBw).at_ hlt hp
        injection hM with hM1 hM2 hM3
        have e2 := hM2.symm
        have e3 := hM3.symm
        subst hM1; subst e2; subst e3
        have d1 := arrB_cell (hD.of_below hBw) (i := a) (by omega)
        have a0 : (0 : Int) ≤ (a : Int) := by omega
        have a1 : (a : Int) < (n : Int) := by omega
        cases hF : F a p
        · rw [hF] at m2
          go_wp2_with fail
          refine ⟨⟨a + 1, by omega, by go_num, ?_, hBl⟩, by simp [intOf]; omega⟩
          intro j hj
          by_cases e : j = a
          · subst e; rw [hF]; rfl
          · exact HC.out j (by omega)
        · rw [hF] at m2
          cases hDa : D.getD a false
          · rw [hDa] at d1
            have er : r = false := by
              rw [← HR.out, List.all_eq_false]
              exact ⟨a, by simpa using hlt, by rw [hF, hDa]; decide⟩
            subst er
            go_wp2_with fail
            go_ret
            exact ⟨rfl, hBw⟩
          · rw [hDa] at d1
            go_wp2_with fail
            refine ⟨⟨a + 1, by omega, by go_num, ?_, hBl⟩, by simp [intOf]; omega⟩
            intro j hj
            by_cases e : j = a
            · subst e; rw [hF, hDa]; rfl
            · exact HC.out j (by omega)
      · obtain rfl : a = n := by omega
        have er : r = true := by
          rw [← HR.out, List.all_eq_true]
          intro j hj
          rw [HC.out j (by simpa using hj)]
          rfl
        subst er
        go_wp2_with fail
        go_ret
        exact ⟨rfl, hBw⟩
  · rw [hd] at d0
    have er : freeF n F D p = false := by unfold freeF; rw [hd]; rfl
    rw [er]
    clear er hd
    go_enter Tryd.func53, Tryd.ntmps53
    go_wp2_with fail
    go_ret
    exact ⟨rfl, hBA⟩
end Go.Proofs.YteejkhgccaagiaaDoor
/- The document's Linear and Sort, told over a table, are the program's, told over rows. -/
namespace Go.Proofs.YteejkhgccaagiaaDoor
open Go.RowKit Go.Shelf Sx

/-- A table and rows with the same pairs. -/
structure TwO (n : Nat) (F : Nat → Nat → Bool) (L : List Nat) : Prop where
  len : L.length = n
  same : ∀ p q, p < n → q < n → F p q = (gr L p).testBit q
theorem gr_set' {L : List Nat} {i p v : Nat} (hi : i < L.length) : gr (L.set i v) p = if p = i then v else gr L p := by
  unfold gr
  rw [List.getD_eq_getElem?_getD, List.getD_eq_getElem?_getD, List.getElem?_set]
  by_cases e : i = p
  · subst e; simp [hi]
  · rw [if_neg e, if_neg (fun h => e h.symm)]
theorem twO_put {n : Nat} {F : Nat → Nat → Bool} {A : List Nat} (ha : TwO n F A) (a b : Int) (v : Bool) : TwO n (putF n F a b v) (putP A a b v) := by
  unfold putF putP
  rw [ha.len]
  by_cases h : (inR n a && inR n b) = true
  · rw [if_pos h, if_pos h]
    rw [Bool.and_eq_true] at h
    obtain ⟨i, rfl, hi⟩ := inR_true h.1
    obtain ⟨j, rfl, hj⟩ := inR_true h.2
    rw [Int.toNat_natCast, Int.toNat_natCast]
    have hl := ha.len
    refine ⟨by rw [List.length_set, hl], fun p q hp hq => ?_⟩
    unfold upd
    rw [gr_set' (by omega)]
    by_cases e : p = i
    · subst e
      rw [if_pos rfl, testBit_setB]
      by_cases e2 : q = j
      · subst e2; simp
      · rw [if_neg (fun h => e2 h.2), if_neg e2]
        exact ha.same p q hp hq
    · rw [if_neg e, if_neg (fun h => e h.1)]
      exact ha.same p q hp hq
  · rw [if_neg h, if_neg h]
    exact ha
theorem twO_of (n : Int) (l : List (Int × Int)) : TwO (clampN n) (ofFn (clampN n) l) (ofL n l) := by
  have key : ∀ (l : List (Int × Int)) (F : Nat → Nat → Bool) (A : List Nat), TwO (clampN n) F A → TwO (clampN n) (l.foldl (fun F x => putF (clampN n) F x.1 x.2 true) F) (l.foldl (fun A x => putP A x.1 x.2 true) A) := by
    intro l
    induction l with
    | nil => exact fun F A h => h
    | cons x l ih => exact fun F A h => ih _ _ (twO_put h x.1 x.2 true)
  refine key l _ _ ⟨by simp, fun p q hp hq => ?_⟩
  rw [gr_eq (R := 0) (by simp [hp]), Nat.zero_testBit]
theorem mem_pairsL {L : List Nat} (hn : L.length ≤ 256) (hlow : ∀ R ∈ L, R < 2 ^ L.length) {p q : Nat} : (p, q) ∈ pairsL L ↔ p < L.length ∧ (gr L p).testBit q = true := by
  rw [show pairsL L = pairsK L L.length from rfl, mem_pairsK]
  constructor
  · rintro ⟨h1, h2⟩
    exact ⟨h1, (mem_bitsN.1 h2).2⟩
  · rintro ⟨h1, h2⟩
    refine ⟨h1, mem_bitsN.2 ⟨?_, h2⟩⟩
    apply Nat.lt_of_not_le
    intro hle
    rw [testBit_of_lt (gr_lt hlow) (show L.length ≤ q by have : 256 ≤ q := hle; omega)] at h2
    cases h2
theorem TwO.pairs {F : Nat → Nat → Bool} {L : List Nat} (h : TwO L.length F L) (hn : L.length ≤ 256) (hlow : ∀ R ∈ L, R < 2 ^ L.length) {p q : Nat} (hp : p < L.length) (hq : q < L.length) : F p q = true ↔ (p, q) ∈ pairsL L := by
  rw [mem_pairsL hn hlow, h.same p q hp hq]
  exact ⟨fun h => ⟨hp, h⟩, fun h => h.2⟩

def rowR (n : Nat) (F : Nat → Nat → Bool) (pl : List Int) (a : Nat) : Bool := (List.range n).all (fun b => !(F a b && decide (pl.getD b 0 ≤ pl.getD a 0)))
def allR (n : Nat) (F : Nat → Nat → Bool) (pl : List Int) : Bool := (List.range n).all (fun a => rowR n F pl a)
def linR (n : Nat) (F : Nat → Nat → Bool) (l : List Int) : Bool := l.length == n && match putsF n l 0 (List.replicate n 0) with | none => false | some pl => allR n F pl
theorem allR_iff {n : Nat} {F : Nat → Nat → Bool} {pl : List Int} : allR n F pl = true ↔ ∀ a b, a < n → b < n → F a b = true → ¬ pl.getD b 0 ≤ pl.getD a 0 := by
  unfold allR rowR
  simp only [List.all_eq_true, List.mem_range, Bool.not_eq_true', Bool.and_eq_false_iff, decide_eq_false_iff_not]
  constructor
  · intro h a b ha hb hF
    rcases h a ha b hb with e | e
    · rw [hF] at e; cases e
    · exact e
  · intro h a ha b hb
    cases hF : F a b
    · exact .inl rfl
    · exact .inr (h a b ha hb hF)
theorem linR_eq {F : Nat → Nat → Bool} {L : List Nat} (h : TwO L.length F L) (hn : L.length ≤ 256) (hlow : ∀ R ∈ L, R < 2 ^ L.length) (l : List Int) : linR L.length F l = linB L l := by
  unfold linR linB
  congr 1
  cases putsF L.length l 0 (List.replicate L.length 0) with
  | none => rfl
  | some pl =>
    show allR L.length F pl = !anyT pl (pairsL L)
    rw [Bool.eq_iff_iff, allR_iff, Bool.not_eq_true']
    unfold anyT
    rw [List.any_eq_false]
    constructor
    · rintro hA ⟨p, q⟩ hx
      have := pairsL_lt hlow _ hx
      have h2 := hA p q this.1 this.2 ((h.pairs hn hlow this.1 this.2).2 hx)
      simp only [turnd, decide_eq_true_eq]
      exact h2
    · intro hA a b ha hb hF
      have h2 := hA (a, b) ((h.pairs hn hlow ha hb).1 hF)
      simpa only [turnd, decide_eq_true_eq] using h2

def doneL (n : Nat) (pts : List Nat) : List Bool := (List.range n).map (fun q => pts.contains q)
theorem doneL_length (n : Nat) (pts : List Nat) : (doneL n pts).length = n := by simp [doneL]
theorem doneL_at {n : Nat} (pts : List Nat) {q : Nat} (h : q < n) : (doneL n pts).getD q false = pts.contains q := by simp [doneL, List.getD, h]
theorem doneL_nil (n : Nat) : doneL n [] = List.replicate n false := by
  unfold doneL
  apply List.ext_getElem
  · simp
  · intro i h1 h2; simp
theorem doneL_set {n : Nat} (pts : List Nat) {p : Nat} : (doneL n pts).set p true = doneL n (pts ++ [p]) := by
  apply List.ext_getElem
  · simp [doneL]
  · intro i h1 h2
    rw [List.getElem_set]
    simp only [doneL, List.getElem_map, List.getElem_range]
    by_cases e : p = i
    · subst e; simp
    · rw [if_neg e]
      rw [Bool.eq_iff_iff]
      simp
      exact fun h => absurd h.symm e
theorem free_iff {F : Nat → Nat → Bool} {L : List Nat} (h : TwO L.length F L) (hn : L.length ≤ 256) (hlow : ∀ R ∈ L, R < 2 ^ L.length) (pts : List Nat) {p : Nat} (hp : p < L.length) : freeF L.length F (doneL L.length pts) p = true ↔ wAt (pairsL L) pts p = 0 := by
  unfold freeF
  rw [doneL_at _ hp, Bool.and_eq_true, Bool.not_eq_true', List.all_eq_true]
  unfold wAt
  constructor
  · rintro ⟨h1, h2⟩
    rw [if_neg (by rw [h1]; simp)]
    have : (pairsL L).filter (fun x => x.2 == p && !pts.contains x.1) = [] := by
      rw [List.filter_eq_nil_iff]
      rintro ⟨a, q⟩ hx hc
      simp only [Bool.and_eq_true, beq_iff_eq, Bool.not_eq_true'] at hc
      obtain ⟨rfl, hc⟩ := hc
      have hl := pairsL_lt hlow _ hx
      have h3 := h2 a (List.mem_range.2 hl.1)
      rw [doneL_at _ hl.1, hc, (h.pairs hn hlow hl.1 hp).2 hx] at h3
      cases h3
    rw [this]
    rfl
  · intro h1
    have hnp : pts.contains p = false := by
      cases hc : pts.contains p
      · rfl
      · rw [hc] at h1
        simp at h1
        omega
    refine ⟨hnp, fun a ha => ?_⟩
    have ha := List.mem_range.1 ha
    rw [doneL_at _ ha]
    cases hF : F a p
    · rfl
    · cases hc : pts.contains a
      · exfalso
        rw [hnp] at h1
        have hm : (a, p) ∈ (pairsL L).filter (fun x => x.2 == p && !pts.contains x.1) := by
          rw [List.mem_filter]
          refine ⟨(h.pairs hn hlow ha hp).1 hF, ?_⟩
          simp only [beq_self_eq_true, Bool.true_and, hc, Bool.not_false]
        have := List.length_pos_of_mem hm
        rw [if_neg (by simp)] at h1
        omega
      · rfl
/-- The least point from k on that may come, or -1. -/
def LeastF (n : Nat) (F : Nat → Nat → Bool) (D : List Bool) (k : Nat) (nx : Int) : Prop :=
  (nx = -1 ∧ ∀ q, k ≤ q → q < n → freeF n F D q = false) ∨ ∃ p : Nat, nx = (p : Int) ∧ k ≤ p ∧ p < n ∧ freeF n F D p = true ∧ ∀ q, k ≤ q → q < p → freeF n F D q = false
theorem LeastF.no {n : Nat} {F : Nat → Nat → Bool} {D : List Bool} {k : Nat} {nx : Int} (h : LeastF n F D (k + 1) nx) (hf : freeF n F D k = false) : LeastF n F D k nx := by
  rcases h with ⟨rfl, h⟩ | ⟨p, rfl, h1, h2, h3, h4⟩
  · refine .inl ⟨rfl, fun q hq hn => ?_⟩
    by_cases e : q = k
    · subst e; exact hf
    · exact h q (by omega) hn
  · refine .inr ⟨p, rfl, by omega, h2, h3, fun q hq hp => ?_⟩
    by_cases e : q = k
    · subst e; exact hf
    · exact h4 q (by omega) hp
theorem LeastF.yes {n : Nat} {F : Nat → Nat → Bool} {D : List Bool} {k : Nat} (hk : k < n) (hf : freeF n F D k = true) : LeastF n F D k (k : Int) := .inr ⟨k, rfl, Nat.le_refl _, hk, hf, fun q h1 h2 => by omega⟩
theorem LeastF.start (n : Nat) (F : Nat → Nat → Bool) (D : List Bool) : LeastF n F D n (-1) := .inl ⟨rfl, fun q h1 h2 => by omega⟩
theorem LeastF.fz {F : Nat → Nat → Bool} {L : List Nat} (h : TwO L.length F L) (hn : L.length ≤ 256) (hlow : ∀ R ∈ L, R < 2 ^ L.length) {pts : List Nat} {nx : Int} (hl : LeastF L.length F (doneL L.length pts) 0 nx) : nx = fz (wAll L.length (pairsL L) pts) := by
  have key : ∀ q, q < L.length → freeF L.length F (doneL L.length pts) q = false → (wAll L.length (pairsL L) pts)[q]? ≠ some 0 := by
    intro q hq hf e
    rw [wAll_at _ _ hq] at e
    injection e with e
    rw [(free_iff h hn hlow pts hq).2 e] at hf
    cases hf
  rcases hl with ⟨rfl, h1⟩ | ⟨p, rfl, _, h2, h3, h4⟩
  · rw [fz_none]
    intro q hq
    rw [wAll_length] at hq
    exact key q hq (h1 q (by omega) hq)
  · rw [fz_at]
    · rw [wAll_at _ _ h2, (free_iff h hn hlow pts h2).1 h3]
    · intro i hi
      exact key i (by omega) (h4 i (by omega) hi)
/-- Where the reference stands: so many points are laid, and what Sort lays goes on from them. -/
structure SrtAt (L : List Nat) (i : Nat) (pts : List Nat) : Prop where
  len : pts.length = i
  le : i ≤ L.length
  nodup : pts.Nodup
  lt : ∀ p ∈ pts, p < L.length
  srt : sortOf L = srt L.length (pairsL L) (L.length + 1 - i) pts
theorem SrtAt.begin (L : List Nat) : SrtAt L 0 [] := ⟨rfl, Nat.zero_le _, List.nodup_nil, fun p hp => by simp at hp, rfl⟩
theorem SrtAt.stuck {L : List Nat} {i : Nat} {pts : List Nat} (h : SrtAt L i pts) (hi : i < L.length) (hf : fz (wAll L.length (pairsL L) pts) < 0) : (sortOf L).length ≠ L.length := by
  rw [h.srt, show L.length + 1 - i = (L.length - i) + 1 by omega]
  unfold Go.Proofs.YteejkhgccaagiaaDoor.srt
  rw [if_neg (by omega), h.len]
  omega
theorem fz_new {L : List Nat} {pts : List Nat} {p : Nat} (hf : fz (wAll L.length (pairsL L) pts) = (p : Int)) : p < L.length ∧ p ∉ pts := by
  obtain ⟨q, h1, h2, h3⟩ := fz_range (l := wAll L.length (pairsL L) pts) (by omega)
  obtain rfl : q = p := by omega
  rw [wAll_length] at h2
  refine ⟨h2, fun hm => ?_⟩
  rw [wAll_at _ _ h2] at h3
  injection h3 with h3
  exact wAt_pos hm h3
theorem SrtAt.next {L : List Nat} {i : Nat} {pts : List Nat} (h : SrtAt L i pts) (hi : i < L.length) {p : Nat} (hf : fz (wAll L.length (pairsL L) pts) = (p : Int)) : SrtAt L (i + 1) (pts ++ [p]) := by
  obtain ⟨h1, h2⟩ := fz_new hf
  refine ⟨by simp [h.len], by omega, ?_, ?_, ?_⟩
  · rw [List.nodup_append]
    refine ⟨h.nodup, by simp, ?_⟩
    intro a ha b hb e
    simp at hb
    subst hb
    subst e
    exact h2 ha
  · intro q hq
    rcases List.mem_append.1 hq with hq | hq
    · exact h.lt q hq
    · simp at hq; subst hq; exact h1
  · rw [h.srt, show L.length + 1 - i = (L.length - i) + 1 by omega]
    conv => lhs; unfold Go.Proofs.YteejkhgccaagiaaDoor.srt
    rw [if_pos (by omega), hf, Int.toNat_natCast]
    congr 1
    omega
theorem SrtAt.full {L : List Nat} {pts : List Nat} (h : SrtAt L L.length pts) : sortOf L = pts := by
  rw [h.srt, show L.length + 1 - L.length = 0 + 1 by omega]
  unfold Go.Proofs.YteejkhgccaagiaaDoor.srt
  rw [if_neg]
  intro hf
  obtain ⟨p, h1, h2, h3⟩ := fz_range hf
  obtain ⟨h4, h5⟩ := fz_new h1
  have hN := nodup_le L.length (pts ++ [p]) (by
    rw [List.nodup_append]
    refine ⟨h.nodup, by simp, ?_⟩
    intro a ha b hb e
    simp at hb
    subst hb
    subst e
    exact h5 ha) (fun q hq => by
    rcases List.mem_append.1 hq with hq | hq
    · exact h.lt q hq
    · simp at hq; subst hq; exact h4)
  rw [List.length_append, h.len] at hN
  simp at hN
  omega
end Go.Proofs.YteejkhgccaagiaaDoor
/- The contract of the reference's Linear. -/
namespace Go.Proofs.YteejkhgccaagiaaDoor
open Go.RowKit Go.Shelf Sx

theorem below_drewN' {B : Nat} {a w : World} (h : Below B a w) (m : Nat) : Below B a (w.drewN m) := ⟨h.os, h.tape, h.output, h.size, h.block⟩
structure LnA (w W : World) (n : Nat) (A : Value) (pl : List Int) : Prop where
  below : Below w.heap.size w W
  pls : Blk W (w.heap.size + 1) 3 (intsA pl)
  box : Blk W w.heap.size 46 #[.int .i64 ((n : Nat) : Int), A]
theorem LnA.drewN {w W : World} {n : Nat} {A : Value} {pl : List Int} (h : LnA w W n A pl) (m : Nat) : LnA w (W.drewN m) n A pl := ⟨below_drewN' h.below m, h.pls, h.box⟩
set_option maxRecDepth 100000 in
set_option maxHeartbeats 4000000 in
theorem r2lin_calls (lo n : Nat) (hn : n ≤ 256) (x : Option Addr) (y z : Nat) (rb : Nat → Nat) (F : Nat → Nat → Bool) (v : Value) (l : List Int) (w : World) (h : RefM lo w (.slice x y z) n n rb F) (hv : IntsR w v l) :
    Calls Tryd.prog 23 #[.agg #[.int .i64 ((n : Nat) : Int), .slice x y z], v] w fun e w' => e = .returned (.bool (linR n F l)) ∧ Below w.heap.size w w' := by
  obtain ⟨p, cap, rfl, hp⟩ := intsR_form hv
  clear hv
  have hmk := make_ints n (by omega)
  have hb := Blk.new w 46 #[.int .i64 ((n : Nat) : Int), .slice x y z]
  have hbA := hb.alloc (.cells (intsA (List.replicate n 0)) 3)
  have hPA : Blk ((w.alloc (.cells #[.int .i64 ((n : Nat) : Int), .slice x y z] 46)).alloc (.cells (intsA (List.replicate n 0)) 3)) (w.heap.size + 1) 3 (intsA (List.replicate n 0)) := by have := Blk.new (w.alloc (.cells #[.int .i64 ((n : Nat) : Int), .slice x y z] 46)) 3 (intsA (List.replicate n 0)); rwa [World.size_alloc] at this
  have hB0 : Below w.heap.size w ((w.alloc (.cells #[.int .i64 ((n : Nat) : Int), .slice x y z] 46)).alloc (.cells (intsA (List.replicate n 0)) 3)) := ((Below.refl _ _).alloc (Nat.le_refl _) _).alloc (by simp) _
  have b0 := hbA.cell (j := 0) rfl
  by_cases hln : l.length = n
  · have e0 : putsF n l 0 (List.replicate n 0) = none → linR n F l = false := fun e => by simp [linR, e]
    have HE0 := hid_of e0
    have e1 : ∀ pl, putsF n l 0 (List.replicate n 0) = some pl → linR n F l = allR n F pl := fun pl e => by simp [linR, e, hln]
    have HE1 := hid_of e1
    clear e0 e1
    rw [hln]
    have hne : ((n : Int) != (n : Int)) = false := by simp
    have HLN := hid_of hln
    have HB := hid_of hB0
    have HbA := hid_of hbA
    have HPA := hid_of hPA
    clear hB0 hbA hPA hln
    go_enter Tryd.func23, Tryd.ntmps23
    go_wp2_with fail
    clear b0 hmk
    go_loopw [6] (fun i wr => ∃ (k : Nat) (pl : List Int), k ≤ n ∧ i = .int .i64 k ∧ pl.length = n ∧ Blk wr (w.heap.size + 1) 3 (intsA pl) ∧ Blk wr w.heap.size 46 #[.int .i64 ((n : Nat) : Int), .slice x y z] ∧ Hid (putsF n l 0 (List.replicate n 0) = putsF n (l.drop k) k pl) ∧ Below w.heap.size w wr) (fun i _ => n - (intOf i).toNat)
    case atStart => exact ⟨0, _, by omega, rfl, by simp, HPA.out, HbA.out, rfl, HB.out⟩
    case round =>
      obtain ⟨k, pl, hk, rfl, hpl, hP, hQ, HC, hBl⟩ := hrel
      have q0 := hQ.cell (j := 0) rfl
      by_cases hlt : k < n
      · obtain ⟨s, o, rfl, hs, hc⟩ := hp (by have := HLN.out; omega)
        obtain ⟨u, hx⟩ : ∃ u, l[k]? = some u := ⟨_, List.getElem?_eq_getElem (by have := HLN.out; omega)⟩
        have c0 := (hBl.cell (p := ⟨s, o + k, none⟩) hs).trans (hc k u hx)
        have HE : Hid (_ = _) := HC.out.trans (putsF_step hx)
        have k0 : (0 : Int) ≤ (k : Int) := by omega
        have k1 : (k : Int) < (n : Int) := by omega
        clear HC hx hc
        by_cases hneg : u < 0
        · have HI : Hid (inR n u = false) := by show _ = _; simp [inR]; omega
          go_wp2_with fail
          go_quiet (fail)
          go_wp2_with fail
          go_ret
          have := HE.out
          rw [HI.out, if_neg (by simp)] at this
          have hr : linR n F l = false := HE0.out this
          exact ⟨by rw [hr]; rfl, below_drewN' hBl _⟩
        · have hneg2 : decide (u < 0) = false := by simpa using hneg
          by_cases hge : (n : Int) ≤ u
          · have HI : Hid (inR n u = false) := by show _ = _; simp [inR]; omega
            go_wp2_with fail
            go_quiet (fail)
            go_wp2_with fail
            go_ret
            have := HE.out
            rw [HI.out, if_neg (by simp)] at this
            have hr : linR n F l = false := HE0.out this
            exact ⟨by rw [hr]; rfl, below_drewN' hBl _⟩
          · have hi : inR n u = true := by simp [inR]; omega
            obtain ⟨j, rfl, hj⟩ := inR_true hi
            rw [hi] at HE
            clear hi
            have hge2 : ¬ n ≤ j := by omega
            have hge3 : decide ((n : Int) ≤ (j : Int)) = false := by simp; omega
            have hge4 : decide (n ≤ j) = false := by simp; omega
            clear hge
            have hj2 : j < pl.length := by omega
            have d0 := hP.cellI (List.getElem?_eq_getElem hj2)
            have f0 := hP.frozen j
            have j0 : (0 : Int) ≤ (j : Int) := by omega
            have j1 : (j : Int) < (n : Int) := by omega
            have HG : Hid (pl.getD (((j : Nat) : Int)).toNat 0 = pl[j]) := by show _ = _; simp [List.getD, hj2]
            cases hz : (pl[j] != 0)
            · have HZ : Hid (pl[j] = 0) := by show _ = _; simpa using hz
              generalize pl[j] = yy at *
              go_wp2_with fail
              go_quiet (fail)
              go_wp2_with fail
              refine ⟨⟨k + 1, pl.set j ((k : Int) + 1), by omega, by go_num, by simpa using hpl, (hP.drewN _).setI _ _, (hQ.drewN _).setOther (by simp) _, ?_, (below_drewN' hBl _).setCell (by simp) _⟩, by simp [intOf]; omega⟩
              have := HE.out
              rw [if_pos ⟨by trivial, HG.out.trans HZ.out⟩] at this
              exact this
            · have HZ : Hid (¬ pl[j] = 0) := by show ¬ _; simpa using hz
              generalize pl[j] = yy at *
              go_wp2_with fail
              go_quiet (fail)
              go_wp2_with fail
              go_ret
              have := HE.out
              rw [if_neg (fun h => HZ.out (HG.out.symm.trans h.2))] at this
              have hr : linR n F l = false := HE0.out this
              exact ⟨by rw [hr]; rfl, below_drewN' hBl _⟩
      · have e1 := HC.out
        rw [List.drop_eq_nil_of_le (by have := HLN.out; omega), show putsF n [] k pl = some pl from rfl] at e1
        have hr : linR n F l = allR n F pl := HE1.out pl e1
        have HLR := hid_of hr
        clear e1 HC HE0 HE1 hr
        obtain ⟨r, HR⟩ : ∃ r, Hid (allR n F pl = r) := ⟨_, rfl⟩
        go_wp2_with fail
        go_loopw [7] (fun i wr2 => ∃ a : Nat, a ≤ n ∧ i = .int .i64 a ∧ LnA w wr2 n (.slice x y z) pl ∧ Hid (∀ c, c < a → rowR n F pl c = true)) (fun i _ => n - (intOf i).toNat)
        case atStart => exact ⟨0, by omega, rfl, ⟨hBl, hP, hQ⟩, fun c hc => by omega⟩
        case round =>
          clear q0 hP hQ hBl
          obtain ⟨a, ha, rfl, hLA, HA⟩ := hrel
          have q0 := hLA.box.cell (j := 0) rfl
          by_cases hlta : a < n
          · go_wp2_with fail
            clear q0
            go_loopw [8] (fun i wr2 => ∃ b : Nat, b ≤ n ∧ i = .int .i64 b ∧ LnA w wr2 n (.slice x y z) pl ∧ Hid (∀ c, c < b → (F a c && decide (pl.getD c 0 ≤ pl.getD a 0)) = false)) (fun i _ => n - (intOf i).toNat)
            case atStart => exact ⟨0, by omega, rfl, hLA, fun c hc => by omega⟩
            case round =>
              clear hLA
              obtain ⟨b, hbn, rfl, hLA, HBb⟩ := hrel
              have q0 := hLA.box.cell (j := 0) rfl
              by_cases hltb : b < n
              · have q1 := hLA.box.cell (j := 1) rfl
                have hP := hLA.pls
                obtain ⟨gm, capm, hM, _, _, _, m1, m2, _, _⟩ := (h.below hLA.below).at_ hlta hltb
                injection hM with hM1 hM2 hM3
                have e2 := hM2.symm
                have e3 := hM3.symm
                subst hM1; subst e2; subst e3
                have da := hP.cellI (i := a) (List.getElem?_eq_getElem (by omega))
                have db := hP.cellI (i := b) (List.getElem?_eq_getElem (by omega))
                have ga : pl.getD a 0 = pl[a]'(by omega) := by simp [List.getD, hpl, hlta]
                have gb : pl.getD b 0 = pl[b]'(by omega) := by simp [List.getD, hpl, hltb]
                rw [← ga] at da
                rw [← gb] at db
                clear ga gb
                have a0 : (0 : Int) ≤ (a : Int) := by omega
                have a1 : (a : Int) < (n : Int) := by omega
                have bb0 : (0 : Int) ≤ (b : Int) := by omega
                have bb1 : (b : Int) < (n : Int) := by omega
                have HT : Hid (rowR n F pl a = false ∨ ¬ (F a b && decide (pl.getD b 0 ≤ pl.getD a 0)) = true) := by
                  by_cases e : (F a b && decide (pl.getD b 0 ≤ pl.getD a 0)) = true
                  · left
                    unfold rowR
                    rw [List.all_eq_false]
                    exact ⟨b, List.mem_range.2 hltb, by rw [e]; decide⟩
                  · exact .inr e
                generalize hpa : pl.getD a 0 = pa at *
                generalize hpb : pl.getD b 0 = pb at *
                have HPa := hid_of hpa
                have HPb := hid_of hpb
                clear hpa hpb
                cases hF : F a b
                · rw [hF] at m2
                  have HF := hid_of hF
                  clear hF hP
                  go_wp2_with fail
                  go_quiet (fail)
                  go_wp2_with fail
                  refine ⟨⟨b + 1, by omega, by go_num, hLA.drewN _, ?_⟩, by simp [intOf]; omega⟩
                  intro c hc
                  by_cases e : c = b
                  · subst e; rw [HF.out]; rfl
                  · exact HBb.out c (by omega)
                · rw [hF] at m2
                  have HF := hid_of hF
                  clear hF
                  by_cases hle : pb ≤ pa
                  · have er : r = false := by
                      rw [← HR.out]
                      unfold allR
                      rw [List.all_eq_false]
                      refine ⟨a, List.mem_range.2 hlta, ?_⟩
                      rcases HT.out with e | e
                      · rw [e]; decide
                      · rw [HF.out] at e
                        simp [hle] at e
                    subst er
                    clear hP
                    go_wp2_with fail
                    go_quiet (fail)
                    go_wp2_with fail
                    go_ret
                    exact ⟨by rw [HLR.out, HR.out]; rfl, (hLA.drewN _).below⟩
                  · have hle2 : decide (pb ≤ pa) = false := by simpa using hle
                    clear hP
                    go_wp2_with fail
                    go_quiet (fail)
                    go_wp2_with fail
                    refine ⟨⟨b + 1, by omega, by go_num, hLA.drewN _, ?_⟩, by simp [intOf]; omega⟩
                    intro c hc
                    by_cases e : c = b
                    · subst e
                      rw [HPb.out, HF.out]
                      simp [hle]
                    · exact HBb.out c (by omega)
              · obtain rfl : b = n := by omega
                go_wp2_with fail
                refine ⟨⟨a + 1, by omega, by go_num, hLA, ?_⟩, by simp [intOf]; omega⟩
                intro c hc
                by_cases e : c = a
                · subst e
                  unfold rowR
                  rw [List.all_eq_true]
                  intro d hd
                  rw [HBb.out d (List.mem_range.1 hd)]
                  rfl
                · exact HA.out c (by omega)
          · obtain rfl : a = n := by omega
            have er : r = true := by
              rw [← HR.out]
              unfold allR
              rw [List.all_eq_true]
              intro c hc
              exact HA.out c (List.mem_range.1 hc)
            subst er
            go_wp2_with fail
            go_ret
            exact ⟨by rw [HLR.out, HR.out]; rfl, hLA.below⟩
  · have e0 : linR n F l = false := by simp [linR, hln]
    rw [e0]
    have hne : ((l.length : Int) != (n : Int)) = true := by simp; omega
    go_enter Tryd.func23, Tryd.ntmps23
    go_wp2_with fail
    go_ret
    exact ⟨rfl, hB0⟩
end Go.Proofs.YteejkhgccaagiaaDoor
/- The contract of the reference's Sort. -/
namespace Go.Proofs.YteejkhgccaagiaaDoor
open Go.RowKit Go.Shelf Sx

/-- What the reference's Sort keeps: its box, what is done, the list. -/
structure R2At (w W : World) (n : Nat) (A v : Value) (D : List Bool) (pts : List Nat) : Prop where
  below : Below w.heap.size w W
  box : Blk W w.heap.size 46 #[.int .i64 ((n : Nat) : Int), A]
  don : Blk W (w.heap.size + 1) 4 (arrB D)
  own : W.ownsRow (w.heap.size + 2) 3 1 v pts.length (encN pts)
theorem R2At.step {w W W' : World} {n : Nat} {A v : Value} {D : List Bool} {pts : List Nat} (h : R2At w W n A v D pts) (hb : Below W.heap.size W W') : R2At w W' n A v D pts :=
  ⟨below_step h.below h.below.size hb, h.box.of_below hb, h.don.of_below hb, owns_below' h.own hb⟩
theorem R2At.mark {w W : World} {n : Nat} {A v : Value} {D : List Bool} {pts : List Nat} (h : R2At w W n A v D pts) (p : Nat) : R2At w (W.setCell ⟨w.heap.size + 1, p, none⟩ (.bool true)) n A v (D.set p true) pts :=
  ⟨h.below.setCell (by simp) _, h.box.setOther (by simp) _, by have := h.don.set p (.bool true); rwa [arrB_set] at this, owns_set h.own (by simp) _⟩
theorem R2At.more {w W W' : World} {n : Nat} {A v v' : Value} {D : List Bool} {pts : List Nat} {p : Nat} (h : R2At w W n A v D pts)
    (hown : W'.ownsRow (w.heap.size + 2) 3 1 v' (pts.length + 1) (encN pts ++ [.int .i64 ((p : Nat) : Int)]))
    (hg : (W.alloc (.cells #[.int .i64 ((p : Nat) : Int)] 3)).grownBy W' v.ownBlock) : R2At w W' n A v' D (pts ++ [p]) := by
  have hlt := h.don.lt
  refine ⟨(h.below.alloc h.below.size _).grown hg (by simp; omega) (fun k e => by have := (h.own.lt k e).1; omega), ?_, ?_, ?_⟩
  · exact (hg.block _ (by simp; omega) (fun e => by have := (h.own.lt _ e.symm).1; omega)).trans (h.box.alloc _)
  · exact (hg.block _ (by simp; omega) (fun e => by have := (h.own.lt _ e.symm).1; omega)).trans (h.don.alloc _)
  · rw [show encN (pts ++ [p]) = encN pts ++ [.int .i64 ((p : Nat) : Int)] from by simp [encN], List.length_append]
    exact hown
theorem owns_sliceN {w : World} {base : Nat} {e : TypeId} {size : Nat} {v : Value} {n : Nat} {xs : List Value} (h : w.ownsRow base e size v n xs) : ∃ x y z, v = .slice x y z := owns_slice h
set_option maxRecDepth 100000 in
set_option maxHeartbeats 4000000 in
theorem r2sort_calls (lo n : Nat) (hn : n ≤ 256) (x : Option Addr) (y z : Nat) (rb : Nat → Nat) (F : Nat → Nat → Bool) (L : List Nat) (w : World) (h : RefM lo w (.slice x y z) n n rb F) (hL : n = L.length) (hT : TwO L.length F L) (hlow : ∀ R ∈ L, R < 2 ^ L.length) :
    Calls Tryd.prog 24 #[.agg #[.int .i64 ((n : Nat) : Int), .slice x y z]] w fun e w' => ∃ v code, e = .returned (.tuple #[v, .int .i64 code]) ∧ SortAns w w' L v code ∧ Below w.heap.size w w' := by
  obtain ⟨i0, hi, hz0, hz1, hz2⟩ := info_parts Tryd.infoint
  have hmk := make_bools n (by omega)
  have hA : R2At w ((w.alloc (.cells #[.int .i64 ((n : Nat) : Int), .slice x y z] 46)).alloc (.cells (arrB (List.replicate n false)) 4)) n (.slice x y z) (.slice none 0 0) (doneL n []) [] := by
    refine ⟨((Below.refl _ _).alloc (Nat.le_refl _) _).alloc (by simp) _, (Blk.new w _ _).alloc _, ?_, World.ownsRow_nil _ _ _ _⟩
    have := Blk.new (w.alloc (.cells #[.int .i64 ((n : Nat) : Int), .slice x y z] 46)) 4 (arrB (List.replicate n false))
    rw [World.size_alloc] at this
    rw [doneL_nil]
    exact this
  have b0 := hA.box.cell (j := 0) rfl
  have HA := hid_of hA
  have HT := hid_of hT
  have HLW := hid_of hlow
  have HLn := hid_of hL
  clear hA hT hlow hL
  go_enter Tryd.func24, Tryd.ntmps24
  go_wp2_with fail
  clear b0 hmk
  go_loopw [5, 6] (fun v i wr => ∃ (k : Nat) (pts : List Nat), k ≤ n ∧ i = .int .i64 k ∧ R2At w wr n (.slice x y z) v (doneL n pts) pts ∧ Hid (SrtAt L k pts) ∧ pts.length = k) (fun _ i _ => n - (intOf i).toNat)
  case atStart => exact ⟨0, [], by omega, rfl, HA.out, SrtAt.begin L, rfl⟩
  case round =>
    clear HA
    obtain ⟨k, pts, hk, rfl, hA, HS, hlen⟩ := hrel
    obtain ⟨vx, vy, vz, rfl⟩ := owns_sliceN hA.own
    have b0 := hA.box.cell (j := 0) rfl
    by_cases hlt : k < n
    · go_wp2_with fail
      clear b0
      go_loopw [7, 8] (fun nx i wr2 => ∃ (q : Nat) (nv : Int), q ≤ n ∧ nx = .int .i64 nv ∧ i = .int .i64 ((q : Int) - 1) ∧ Hid (LeastF n F (doneL n pts) q nv) ∧ R2At w wr2 n (.slice x y z) (.slice vx vy vz) (doneL n pts) pts) (fun _ i _ => (intOf i + 1).toNat)
      case atStart => exact ⟨n, -1, by omega, rfl, by go_num, LeastF.start _ _ _, hA⟩
      case round =>
        clear hA
        obtain ⟨q, nv, hq, rfl, rfl, HLF, hA⟩ := hrel
        by_cases hq0 : 0 < q
        · obtain ⟨q', rfl⟩ : ∃ q', q = q' + 1 := ⟨q - 1, by omega⟩
          have eq1 : (((q' + 1 : Nat) : Int)) - 1 = (q' : Int) := by omega
          rw [eq1]
          have b0 := hA.box.cell (j := 0) rfl
          have b1 := hA.box.cell (j := 1) rfl
          have hf := r2free_calls lo n hn x y z rb F (doneL n pts) (w.heap.size + 1) q' wr (h.below hA.below) hA.don (doneL_length _ _) (by omega)
          have g0 : (0 : Int) ≤ (q' : Int) := by omega
          cases hfr : freeF n F (doneL n pts) q'
          · rw [hfr] at hf
            have HLF2 := hid_of (HLF.out.no hfr)
            clear hfr
            go_wp2_with fail
            refine hf.mono ?_
            rintro e w2 ⟨rfl, hB2⟩
            have hA2 := hA.step hB2
            clear hf
            go_wp2_with fail
            refine ⟨⟨q', nv, by omega, rfl, by go_num, HLF2, hA2⟩, by first | (simp [intOf]; done) | (simp [intOf]; omega)⟩
          · rw [hfr] at hf
            have HLF2 := hid_of (LeastF.yes (n := n) (by omega) hfr)
            clear hfr
            go_wp2_with fail
            refine hf.mono ?_
            rintro e w2 ⟨rfl, hB2⟩
            have hA2 := hA.step hB2
            clear hf
            go_wp2_with fail
            refine ⟨⟨q', q', by omega, rfl, by go_num, HLF2, hA2⟩, by first | (simp [intOf]; done) | (simp [intOf]; omega)⟩
        · obtain rfl : q = 0 := by omega
          have HF : Hid (nv = fz (wAll L.length (pairsL L) pts)) := by
            have e := HLn.out
            have hh := HLF.out
            rw [e] at hh
            exact LeastF.fz HT.out (by omega) HLW.out hh
          have hm1 : ¬ (0 : Int) ≤ ((0 : Nat) : Int) - 1 := by omega
          by_cases hneg : nv < 0
          · go_wp2_with fail
            go_ret2
            have hst := HS.out.stuck (by have := HLn.out; omega) (by rw [← HF.out]; exact hneg)
            exact ⟨_, _, rfl, ⟨fun e => absurd e hst, fun _ => ⟨rfl, rfl⟩⟩, hA.below⟩
          · obtain ⟨p, rfl⟩ : ∃ p : Nat, nv = (p : Int) := ⟨nv.toNat, by omega⟩
            have hp := fz_new HF.out.symm
            have hpn : p < n := by rw [HLn.out]; exact hp.1
            have p0 : (0 : Int) ≤ (p : Int) := by omega
            have p1 : (p : Int) < (n : Int) := by omega
            have d0 := arrB_cell hA.don (i := p) (by rw [doneL_length]; exact hpn)
            have f0 := hA.don.frozen p
            have hA2 := hA.mark p
            rw [doneL_set] at hA2
            have HS2 := hid_of (HS.out.next (by have := HLn.out; omega) HF.out.symm)
            have hz : (wr.setCell ⟨w.heap.size + 1, p, none⟩ (.bool true)).heap.size = wr.heap.size := by simp [World.setCell]
            have hsz := hA.don.lt
            have HA2 := hid_of hA2
            clear hA2 hA HF HLF
            go_wp2_with (at_builtin; refine wpList_append_own_at _ rfl _ _ 29 rfl (w.heap.size + 2) 3 i0 (.int .i64 0) 1 8 Tryd.underlying29 hi hz0 hz1 hz2 rfl (by decide) (.slice vx vy vz) pts.length (encN pts) rfl (HA2.out.own.alloc _) ⟨_, 0, none⟩ 1 1 [.int .i64 p] rfl rfl (by intro k u hk; match k, hk with | 0, hk => simp at hk; subst hk; have h3 := (Blk.new (wr.setCell ⟨w.heap.size + 1, p, none⟩ (.bool true)) 3 #[.int .i64 ((p : Nat) : Int)]).cell (j := 0) rfl; rw [hz] at h3; exact h3) (by simp [Value.oneCell']) (by unfold maxLen; omega) (by omega) (by simp; omega) ?_; intro v' w5 hown' hgrow _ _; have hA5 := HA2.out.more hown' hgrow)
            refine ⟨⟨k + 1, pts ++ [p], by omega, by go_num, hA5, HS2, by simp; omega⟩, by simp [intOf]; omega⟩
    · obtain rfl : k = n := by omega
      go_wp2_with fail
      go_ret2
      refine ⟨_, _, rfl, ⟨fun _ => ⟨rfl, ?_⟩, fun e => ?_⟩, hA.below⟩
      · have hs := HS.out
        rw [HLn.out] at hs
        rw [hs.full]
        have := owns_lo hA.own (show w.heap.size ≤ w.heap.size + 2 by omega)
        rw [hlen, HLn.out] at this
        exact this
      · exfalso
        have hs := HS.out
        have hl2 := hlen
        rw [HLn.out] at hs hl2
        rw [hs.full] at e
        exact e hl2
end Go.Proofs.YteejkhgccaagiaaDoor
