/- The document's Linear and Sort, told over a table, are the program's, told over rows. -/
import Derived.Test.YteejkhgccaagiaaDoorR2Free
namespace Go.Proofs.YteejkhgccaagiaaDoor
open Go.RowKit Go.Shelf Sx

/-- A table and rows with the same pairs. -/
structure TwO (n : Nat) (F : Nat → Nat → Bool) (L : List Nat) : Prop where
  len : L.length = n
  same : ∀ p q, p < n → q < n → F p q = (gr L p).testBit q
theorem gr_set' {L : List Nat} {i p v : Nat} (hi : i < L.length) : gr (L.set i v) p = if p = i then v else gr L p := by
  unfold gr
  rw [List.getD_eq_getElem?_getD, List.getD_eq_getElem?_getD, List.getElem?_set]
  by_cases e : i = p
  · subst e; simp [hi]
  · rw [if_neg e, if_neg (fun h => e h.symm)]
theorem twO_put {n : Nat} {F : Nat → Nat → Bool} {A : List Nat} (ha : TwO n F A) (a b : Int) (v : Bool) : TwO n (putF n F a b v) (putP A a b v) := by
  unfold putF putP
  rw [ha.len]
  by_cases h : (inR n a && inR n b) = true
  · rw [if_pos h, if_pos h]
    rw [Bool.and_eq_true] at h
    obtain ⟨i, rfl, hi⟩ := inR_true h.1
    obtain ⟨j, rfl, hj⟩ := inR_true h.2
    rw [Int.toNat_natCast, Int.toNat_natCast]
    have hl := ha.len
    refine ⟨by rw [List.length_set, hl], fun p q hp hq => ?_⟩
    unfold upd
    rw [gr_set' (by omega)]
    by_cases e : p = i
    · subst e
      rw [if_pos rfl, testBit_setB]
      by_cases e2 : q = j
      · subst e2; simp
      · rw [if_neg (fun h => e2 h.2), if_neg e2]
        exact ha.same p q hp hq
    · rw [if_neg e, if_neg (fun h => e h.1)]
      exact ha.same p q hp hq
  · rw [if_neg h, if_neg h]
    exact ha
theorem twO_of (n : Int) (l : List (Int × Int)) : TwO (clampN n) (ofFn (clampN n) l) (ofL n l) := by
  have key : ∀ (l : List (Int × Int)) (F : Nat → Nat → Bool) (A : List Nat), TwO (clampN n) F A → TwO (clampN n) (l.foldl (fun F x => putF (clampN n) F x.1 x.2 true) F) (l.foldl (fun A x => putP A x.1 x.2 true) A) := by
    intro l
    induction l with
    | nil => exact fun F A h => h
    | cons x l ih => exact fun F A h => ih _ _ (twO_put h x.1 x.2 true)
  refine key l _ _ ⟨by simp, fun p q hp hq => ?_⟩
  rw [gr_eq (R := 0) (by simp [hp]), Nat.zero_testBit]
theorem mem_pairsL {L : List Nat} (hn : L.length ≤ 256) (hlow : ∀ R ∈ L, R < 2 ^ L.length) {p q : Nat} : (p, q) ∈ pairsL L ↔ p < L.length ∧ (gr L p).testBit q = true := by
  rw [show pairsL L = pairsK L L.length from rfl, mem_pairsK]
  constructor
  · rintro ⟨h1, h2⟩
    exact ⟨h1, (mem_bitsN.1 h2).2⟩
  · rintro ⟨h1, h2⟩
    refine ⟨h1, mem_bitsN.2 ⟨?_, h2⟩⟩
    apply Nat.lt_of_not_le
    intro hle
    rw [testBit_of_lt (gr_lt hlow) (show L.length ≤ q by have : 256 ≤ q := hle; omega)] at h2
    cases h2
theorem TwO.pairs {F : Nat → Nat → Bool} {L : List Nat} (h : TwO L.length F L) (hn : L.length ≤ 256) (hlow : ∀ R ∈ L, R < 2 ^ L.length) {p q : Nat} (hp : p < L.length) (hq : q < L.length) : F p q = true ↔ (p, q) ∈ pairsL L := by
  rw [mem_pairsL hn hlow, h.same p q hp hq]
  exact ⟨fun h => ⟨hp, h⟩, fun h => h.2⟩

def rowR (n : Nat) (F : Nat → Nat → Bool) (pl : List Int) (a : Nat) : Bool := (List.range n).all (fun b => !(F a b && decide (pl.getD b 0 ≤ pl.getD a 0)))
def allR (n : Nat) (F : Nat → Nat → Bool) (pl : List Int) : Bool := (List.range n).all (fun a => rowR n F pl a)
def linR (n : Nat) (F : Nat → Nat → Bool) (l : List Int) : Bool := l.length == n && match putsF n l 0 (List.replicate n 0) with | none => false | some pl => allR n F pl
theorem allR_iff {n : Nat} {F : Nat → Nat → Bool} {pl : List Int} : allR n F pl = true ↔ ∀ a b, a < n → b < n → F a b = true → ¬ pl.getD b 0 ≤ pl.getD a 0 := by
  unfold allR rowR
  simp only [List.all_eq_true, List.mem_range, Bool.not_eq_true', Bool.and_eq_false_iff, decide_eq_false_iff_not]
  constructor
  · intro h a b ha hb hF
    rcases h a ha b hb with e | e
    · rw [hF] at e; cases e
    · exact e
  · intro h a ha b hb
    cases hF : F a b
    · exact .inl rfl
    · exact .inr (h a b ha hb hF)
theorem linR_eq {F : Nat → Nat → Bool} {L : List Nat} (h : TwO L.length F L) (hn : L.length ≤ 256) (hlow : ∀ R ∈ L, R < 2 ^ L.length) (l : List Int) : linR L.length F l = linB L l := by
  unfold linR linB
  congr 1
  cases putsF L.length l 0 (List.replicate L.length 0) with
  | none => rfl
  | some pl =>
    show allR L.length F pl = !anyT pl (pairsL L)
    rw [Bool.eq_iff_iff, allR_iff, Bool.not_eq_true']
    unfold anyT
    rw [List.any_eq_false]
    constructor
    · rintro hA ⟨p, q⟩ hx
      have := pairsL_lt hlow _ hx
      have h2 := hA p q this.1 this.2 ((h.pairs hn hlow this.1 this.2).2 hx)
      simp only [turnd, decide_eq_true_eq]
      exact h2
    · intro hA a b ha hb hF
      have h2 := hA (a, b) ((h.pairs hn hlow ha hb).1 hF)
      simpa only [turnd, decide_eq_true_eq] using h2

def doneL (n : Nat) (pts : List Nat) : List Bool := (List.range n).map (fun q => pts.contains q)
theorem doneL_length (n : Nat) (pts : List Nat) : (doneL n pts).length = n := by simp [doneL]
theorem doneL_at {n : Nat} (pts : List Nat) {q : Nat} (h : q < n) : (doneL n pts).getD q false = pts.contains q := by simp [doneL, List.getD, h]
theorem doneL_nil (n : Nat) : doneL n [] = List.replicate n false := by
  unfold doneL
  apply List.ext_getElem
  · simp
  · intro i h1 h2; simp
theorem doneL_set {n : Nat} (pts : List Nat) {p : Nat} : (doneL n pts).set p true = doneL n (pts ++ [p]) := by
  apply List.ext_getElem
  · simp [doneL]
  · intro i h1 h2
    rw [List.getElem_set]
    simp only [doneL, List.getElem_map, List.getElem_range]
    by_cases e : p = i
    · subst e; simp
    · rw [if_neg e]
      rw [Bool.eq_iff_iff]
      simp
      exact fun h => absurd h.symm e
theorem free_iff {F : Nat → Nat → Bool} {L : List Nat} (h : TwO L.length F L) (hn : L.length ≤ 256) (hlow : ∀ R ∈ L, R < 2 ^ L.length) (pts : List Nat) {p : Nat} (hp : p < L.length) : freeF L.length F (doneL L.length pts) p = true ↔ wAt (pairsL L) pts p = 0 := by
  unfold freeF
  rw [doneL_at _ hp, Bool.and_eq_true, Bool.not_eq_true', List.all_eq_true]
  unfold wAt
  constructor
  · rintro ⟨h1, h2⟩
    rw [if_neg (by rw [h1]; simp)]
    have : (pairsL L).filter (fun x => x.2 == p && !pts.contains x.1) = [] := by
      rw [List.filter_eq_nil_iff]
      rintro ⟨a, q⟩ hx hc
      simp only [Bool.and_eq_true, beq_iff_eq, Bool.not_eq_true'] at hc
      obtain ⟨rfl, hc⟩ := hc
      have hl := pairsL_lt hlow _ hx
      have h3 := h2 a (List.mem_range.2 hl.1)
      rw [doneL_at _ hl.1, hc, (h.pairs hn hlow hl.1 hp).2 hx] at h3
      cases h3
    rw [this]
    rfl
  · intro h1
    have hnp : pts.contains p = false := by
      cases hc : pts.contains p
      · rfl
      · rw [hc] at h1
        simp at h1
        omega
    refine ⟨hnp, fun a ha => ?_⟩
    have ha := List.mem_range.1 ha
    rw [doneL_at _ ha]
    cases hF : F a p
    · rfl
    · cases hc : pts.contains a
      · exfalso
        rw [hnp] at h1
        have hm : (a, p) ∈ (pairsL L).filter (fun x => x.2 == p && !pts.contains x.1) := by
          rw [List.mem_filter]
          refine ⟨(h.pairs hn hlow ha hp).1 hF, ?_⟩
          simp only [beq_self_eq_true, Bool.true_and, hc, Bool.not_false]
        have := List.length_pos_of_mem hm
        rw [if_neg (by simp)] at h1
        omega
      · rfl
/-- The least point from k on that may come, or -1. -/
def LeastF (n : Nat) (F : Nat → Nat → Bool) (D : List Bool) (k : Nat) (nx : Int) : Prop :=
  (nx = -1 ∧ ∀ q, k ≤ q → q < n → freeF n F D q = false) ∨ ∃ p : Nat, nx = (p : Int) ∧ k ≤ p ∧ p < n ∧ freeF n F D p = true ∧ ∀ q, k ≤ q → q < p → freeF n F D q = false
theorem LeastF.no {n : Nat} {F : Nat → Nat → Bool} {D : List Bool} {k : Nat} {nx : Int} (h : LeastF n F D (k + 1) nx) (hf : freeF n F D k = false) : LeastF n F D k nx := by
  rcases h with ⟨rfl, h⟩ | ⟨p, rfl, h1, h2, h3, h4⟩
  · refine .inl ⟨rfl, fun q hq hn => ?_⟩
    by_cases e : q = k
    · subst e; exact hf
    · exact h q (by omega) hn
  · refine .inr ⟨p, rfl, by omega, h2, h3, fun q hq hp => ?_⟩
    by_cases e : q = k
    · subst e; exact hf
    · exact h4 q (by omega) hp
theorem LeastF.yes {n : Nat} {F : Nat → Nat → Bool} {D : List Bool} {k : Nat} (hk : k < n) (hf : freeF n F D k = true) : LeastF n F D k (k : Int) := .inr ⟨k, rfl, Nat.le_refl _, hk, hf, fun q h1 h2 => by omega⟩
theorem LeastF.start (n : Nat) (F : Nat → Nat → Bool) (D : List Bool) : LeastF n F D n (-1) := .inl ⟨rfl, fun q h1 h2 => by omega⟩
theorem LeastF.fz {F : Nat → Nat → Bool} {L : List Nat} (h : TwO L.length F L) (hn : L.length ≤ 256) (hlow : ∀ R ∈ L, R < 2 ^ L.length) {pts : List Nat} {nx : Int} (hl : LeastF L.length F (doneL L.length pts) 0 nx) : nx = fz (wAll L.length (pairsL L) pts) := by
  have key : ∀ q, q < L.length → freeF L.length F (doneL L.length pts) q = false → (wAll L.length (pairsL L) pts)[q]? ≠ some 0 := by
    intro q hq hf e
    rw [wAll_at _ _ hq] at e
    injection e with e
    rw [(free_iff h hn hlow pts hq).2 e] at hf
    cases hf
  rcases hl with ⟨rfl, h1⟩ | ⟨p, rfl, _, h2, h3, h4⟩
  · rw [fz_none]
    intro q hq
    rw [wAll_length] at hq
    exact key q hq (h1 q (by omega) hq)
  · rw [fz_at]
    · rw [wAll_at _ _ h2, (free_iff h hn hlow pts h2).1 h3]
    · intro i hi
      exact key i (by omega) (h4 i (by omega) hi)
/-- Where the reference stands: so many points are laid, and what Sort lays goes on from them. -/
structure SrtAt (L : List Nat) (i : Nat) (pts : List Nat) : Prop where
  len : pts.length = i
  le : i ≤ L.length
  nodup : pts.Nodup
  lt : ∀ p ∈ pts, p < L.length
  srt : sortOf L = srt L.length (pairsL L) (L.length + 1 - i) pts
theorem SrtAt.begin (L : List Nat) : SrtAt L 0 [] := ⟨rfl, Nat.zero_le _, List.nodup_nil, fun p hp => by simp at hp, rfl⟩
theorem SrtAt.stuck {L : List Nat} {i : Nat} {pts : List Nat} (h : SrtAt L i pts) (hi : i < L.length) (hf : fz (wAll L.length (pairsL L) pts) < 0) : (sortOf L).length ≠ L.length := by
  rw [h.srt, show L.length + 1 - i = (L.length - i) + 1 by omega]
  unfold Go.Proofs.YteejkhgccaagiaaDoor.srt
  rw [if_neg (by omega), h.len]
  omega
theorem fz_new {L : List Nat} {pts : List Nat} {p : Nat} (hf : fz (wAll L.length (pairsL L) pts) = (p : Int)) : p < L.length ∧ p ∉ pts := by
  obtain ⟨q, h1, h2, h3⟩ := fz_range (l := wAll L.length (pairsL L) pts) (by omega)
  obtain rfl : q = p := by omega
  rw [wAll_length] at h2
  refine ⟨h2, fun hm => ?_⟩
  rw [wAll_at _ _ h2] at h3
  injection h3 with h3
  exact wAt_pos hm h3
theorem SrtAt.next {L : List Nat} {i : Nat} {pts : List Nat} (h : SrtAt L i pts) (hi : i < L.length) {p : Nat} (hf : fz (wAll L.length (pairsL L) pts) = (p : Int)) : SrtAt L (i + 1) (pts ++ [p]) := by
  obtain ⟨h1, h2⟩ := fz_new hf
  refine ⟨by simp [h.len], by omega, ?_, ?_, ?_⟩
  · rw [List.nodup_append]
    refine ⟨h.nodup, by simp, ?_⟩
    intro a ha b hb e
    simp at hb
    subst hb
    subst e
    exact h2 ha
  · intro q hq
    rcases List.mem_append.1 hq with hq | hq
    · exact h.lt q hq
    · simp at hq; subst hq; exact h1
  · rw [h.srt, show L.length + 1 - i = (L.length - i) + 1 by omega]
    conv => lhs; unfold Go.Proofs.YteejkhgccaagiaaDoor.srt
    rw [if_pos (by omega), hf, Int.toNat_natCast]
    congr 1
    omega
theorem SrtAt.full {L : List Nat} {pts : List Nat} (h : SrtAt L L.length pts) : sortOf L = pts := by
  rw [h.srt, show L.length + 1 - L.length = 0 + 1 by omega]
  unfold Go.Proofs.YteejkhgccaagiaaDoor.srt
  rw [if_neg]
  intro hf
  obtain ⟨p, h1, h2, h3⟩ := fz_range hf
  obtain ⟨h4, h5⟩ := fz_new h1
  have hN := nodup_le L.length (pts ++ [p]) (by
    rw [List.nodup_append]
    refine ⟨h.nodup, by simp, ?_⟩
    intro a ha b hb e
    simp at hb
    subst hb
    subst e
    exact h5 ha) (fun q hq => by
    rcases List.mem_append.1 hq with hq | hq
    · exact h.lt q hq
    · simp at hq; subst hq; exact h4)
  rw [List.length_append, h.len] at hN
  simp at hN
  omega
end Go.Proofs.YteejkhgccaagiaaDoor
