/- The lists of points that lead to one another: their maths. -/
import Derived.Test.YtijjogpldoafjabDoorJ13
import Derived.Test.YtijjogpldoafjabDoorJ15
namespace Go.Proofs.YtijjogpldoafjabDoor
open Go.RowKit Go.Shelf Sx

/-- The least point of a point's list. -/
def leastE (E : Nat → Nat → Bool) (p : Nat) : Nat := ((List.range p).find? (fun q => E p q)).getD p
theorem leastE_cases (E : Nat → Nat → Bool) (p : Nat) : (leastE E p = p ∧ ∀ q, q < p → E p q = false) ∨ (leastE E p < p ∧ E p (leastE E p) = true ∧ ∀ q, q < leastE E p → E p q = false) := by
  unfold leastE
  cases h : (List.range p).find? (fun q => E p q) with
  | none =>
    left
    refine ⟨rfl, fun q hq => ?_⟩
    have := List.find?_eq_none.1 h q (List.mem_range.2 hq)
    simpa using this
  | some u =>
    right
    have h1 := List.find?_some h
    have h2 := List.mem_of_find?_eq_some h
    refine ⟨List.mem_range.1 h2, h1, fun q hq => ?_⟩
    obtain ⟨_, as', bs', e, hn⟩ := List.find?_eq_some_iff_append.1 h
    have hu : as'.length = u := by
      have hl : as'.length < (List.range p).length := by rw [e]; simp
      have h3 : (List.range p)[as'.length]? = some u := by rw [e]; simp
      rw [List.getElem?_range (by simpa using hl)] at h3
      exact Option.some.inj h3
    have hq2 : (List.range p)[q]? = some q := List.getElem?_range (by have := List.mem_range.1 h2; simp at hq; omega)
    have hq' : q < u := hq
    have : q ∈ as' := by
      rw [e, List.getElem?_append_left (by omega)] at hq2
      exact List.mem_of_getElem? hq2
    have := hn q this
    simpa using this
theorem leastE_le (E : Nat → Nat → Bool) (p : Nat) : leastE E p ≤ p := by
  rcases leastE_cases E p with ⟨h, _⟩ | ⟨h, _⟩ <;> omega
theorem leastE_of {E : Nat → Nat → Bool} {p q : Nat} (hq : q < p) (h : E p q = true) : leastE E p ≤ q := by
  rcases leastE_cases E p with ⟨_, h1⟩ | ⟨_, _, h1⟩
  · rw [h1 q hq] at h; cases h
  · apply Nat.le_of_not_lt
    intro hlt
    rw [h1 q hlt] at h; cases h
/-- What is alike: both ways, and so on. -/
structure Eqv (n : Nat) (E : Nat → Nat → Bool) : Prop where
  symm : ∀ p q, p < n → q < n → E p q = true → E q p = true
  trans : ∀ p q r, p < n → q < n → r < n → E p q = true → E q r = true → E p r = true
theorem leastE_idem {n : Nat} {E : Nat → Nat → Bool} (h : Eqv n E) {p : Nat} (hp : p < n) : leastE E (leastE E p) = leastE E p := by
  rcases leastE_cases E p with ⟨e, _⟩ | ⟨h1, h2, h3⟩
  · rw [e, e]
  · generalize leastE E p = u at *
    rcases leastE_cases E u with ⟨e, _⟩ | ⟨k1, k2, _⟩
    · exact e
    · have := h.trans p u (leastE E u) hp (by omega) (by omega) h2 k2
      rw [h3 _ k1] at this
      cases this
theorem leastE_same {n : Nat} {E : Nat → Nat → Bool} (h : Eqv n E) {p q : Nat} (hp : p < n) (hq : q < n) : leastE E p = leastE E q ↔ p = q ∨ E p q = true := by
  have self : ∀ p, p < n → leastE E p = p ∨ E p (leastE E p) = true := fun p hp => by
    rcases leastE_cases E p with ⟨e, _⟩ | ⟨_, h2, _⟩
    · exact .inl e
    · exact .inr h2
  have le : ∀ p q, p < n → q < n → E p q = true → leastE E p ≤ leastE E q := by
    intro p q hp hq hE
    have hv := leastE_le E q
    have hE2 : E p (leastE E q) = true := by
      rcases self q hq with e | e
      · rw [e]; exact hE
      · exact h.trans p q _ hp hq (by omega) hE e
    by_cases hlt : leastE E q < p
    · exact leastE_of hlt hE2
    · have := leastE_le E p
      omega
  constructor
  · intro e
    rcases self p hp with e1 | e1
    · rcases self q hq with e2 | e2
      · left; rw [← e1, e, e2]
      · right
        rw [← e, e1] at e2
        exact h.symm _ _ hq hp e2
    · have hu : leastE E p < n := by have := leastE_le E p; omega
      rcases self q hq with e2 | e2
      · right
        rw [e, e2] at e1
        exact e1
      · right
        rw [← e] at e2
        exact h.trans _ _ _ hp hu hq e1 (h.symm _ _ hq hu e2)
  · rintro (rfl | e)
    · rfl
    · exact Nat.le_antisymm (le p q hp hq e) (le q p hq hp (h.symm _ _ hp hq e))
/-- The least points below k, rising; the lists of the points below k. -/
def fstK (E : Nat → Nat → Bool) (k : Nat) : List Nat := (List.range k).filter (fun p => leastE E p == p)
def clK (E : Nat → Nat → Bool) (k u : Nat) : List Nat := (List.range k).filter (fun p => leastE E p == u)
def clsK (E : Nat → Nat → Bool) (k : Nat) : List (List Nat) := (fstK E k).map (clK E k)
theorem fstK_mem {E : Nat → Nat → Bool} {k u : Nat} : u ∈ fstK E k ↔ u < k ∧ leastE E u = u := by simp [fstK]
theorem clK_mem {E : Nat → Nat → Bool} {k u p : Nat} : p ∈ clK E k u ↔ p < k ∧ leastE E p = u := by simp [clK]
theorem fstK_rise (E : Nat → Nat → Bool) (k : Nat) : (fstK E k).Pairwise (· < ·) := List.Pairwise.filter _ List.pairwise_lt_range
theorem clK_succ_no {E : Nat → Nat → Bool} {k u : Nat} (h : leastE E k ≠ u) : clK E (k + 1) u = clK E k u := by
  unfold clK
  rw [List.range_succ, List.filter_append]
  have : (leastE E k == u) = false := by simpa using h
  simp [this]
theorem clK_succ_yes {E : Nat → Nat → Bool} {k u : Nat} (h : leastE E k = u) : clK E (k + 1) u = clK E k u ++ [k] := by
  unfold clK
  rw [List.range_succ, List.filter_append]
  simp [h]
theorem clK_new (E : Nat → Nat → Bool) (k : Nat) : clK E k k = [] := by
  unfold clK
  rw [List.filter_eq_nil_iff]
  intro p hp hc
  have := List.mem_range.1 hp
  have h2 := leastE_le E p
  simp at hc
  omega
theorem cls_new {E : Nat → Nat → Bool} {k : Nat} (h : leastE E k = k) : clsK E (k + 1) = clsK E k ++ [[k]] := by
  unfold clsK
  have e : fstK E (k + 1) = fstK E k ++ [k] := by
    unfold fstK
    rw [List.range_succ, List.filter_append]
    simp [h]
  rw [e, List.map_append]
  congr 1
  · apply List.map_congr_left
    intro u hu
    have := fstK_mem.1 hu
    exact clK_succ_no (by omega)
  · simp [clK_succ_yes h, clK_new]
theorem fst_inj {l : List Nat} (h : l.Pairwise (· < ·)) {i j a : Nat} (hi : l[i]? = some a) (hj : l[j]? = some a) : i = j := by
  obtain ⟨h1, e1⟩ := List.getElem?_eq_some_iff.1 hi
  obtain ⟨h2, e2⟩ := List.getElem?_eq_some_iff.1 hj
  have k := List.pairwise_iff_getElem.1 h
  rcases Nat.lt_trichotomy i j with e | e | e
  · have := k i j h1 h2 e; omega
  · exact e
  · have := k j i h2 h1 e; omega
theorem cls_in {E : Nat → Nat → Bool} {k u i : Nat} (h : leastE E k = u) (hu : u < k) (hi : (fstK E k)[i]? = some u) : clsK E (k + 1) = (clsK E k).set i (clK E k u ++ [k]) := by
  have e : fstK E (k + 1) = fstK E k := by
    unfold fstK
    rw [List.range_succ, List.filter_append]
    have : (leastE E k == k) = false := by rw [h]; simp; omega
    simp [this]
  unfold clsK
  rw [e]
  apply List.ext_getElem?
  intro j
  rw [List.getElem?_set]
  by_cases hj : i = j
  · subst hj
    rw [if_pos rfl, List.getElem?_map, hi]
    have : i < ((fstK E k).map (clK E k)).length := by
      rw [List.length_map]; exact (List.getElem?_eq_some_iff.1 hi).1
    rw [if_pos this]
    simp [clK_succ_yes h]
  · rw [if_neg hj, List.getElem?_map, List.getElem?_map]
    cases hx : (fstK E k)[j]? with
    | none => rfl
    | some v =>
      simp only [Option.map_some]
      congr 1
      apply clK_succ_no
      intro e2
      rw [h] at e2
      subst e2
      exact hj (fst_inj (fstK_rise E k) hi hx)
/-- A list begins with its least point. -/
theorem clK_head {E : Nat → Nat → Bool} {k u : Nat} (h : u ∈ fstK E k) : ∃ tl, clK E k u = u :: tl := by
  obtain ⟨h1, h2⟩ := fstK_mem.1 h
  have hm : u ∈ clK E k u := clK_mem.2 ⟨h1, h2⟩
  have hr : (clK E k u).Pairwise (· < ·) := List.Pairwise.filter _ List.pairwise_lt_range
  cases hc : clK E k u with
  | nil => rw [hc] at hm; cases hm
  | cons x tl =>
    rw [hc] at hm hr
    have hx : x ∈ clK E k u := by rw [hc]; exact List.mem_cons_self ..
    have hx2 := (clK_mem.1 hx).2
    have := leastE_le E x
    rcases List.mem_cons.1 hm with rfl | hm
    · exact ⟨tl, rfl⟩
    · have := (List.pairwise_cons.1 hr).1 u hm
      omega
/-- None of the lists takes k: it is the least point of its own. -/
theorem scan_none {n : Nat} {E : Nat → Nat → Bool} (h : Eqv n E) {k : Nat} (hk : k < n) (hs : ∀ (i u : Nat), (fstK E k)[i]? = some u → E u k = false) : leastE E k = k := by
  rcases leastE_cases E k with ⟨e, _⟩ | ⟨h1, h2, _⟩
  · exact e
  · exfalso
    have hm : leastE E k ∈ fstK E k := fstK_mem.2 ⟨h1, leastE_idem h hk⟩
    obtain ⟨i, hi⟩ := List.getElem?_of_mem hm
    have h3 := hs i _ hi
    rw [h.symm _ _ hk (by omega) h2] at h3
    cases h3
theorem scan_some {n : Nat} {E : Nat → Nat → Bool} (h : Eqv n E) {k i u : Nat} (hk : k < n) (hi : (fstK E k)[i]? = some u) (hu : E u k = true) (hs : ∀ (j v : Nat), j < i → (fstK E k)[j]? = some v → E v k = false) : leastE E k = u := by
  have hum := fstK_mem.1 (List.mem_of_getElem? hi)
  have h1 : leastE E k ≤ u := leastE_of hum.1 (h.symm _ _ (by omega) hk hu)
  have hlt : leastE E k < k := by omega
  rcases leastE_cases E k with ⟨e, _⟩ | ⟨_, h2, _⟩
  · omega
  · have hm : leastE E k ∈ fstK E k := fstK_mem.2 ⟨hlt, leastE_idem h hk⟩
    obtain ⟨j, hj⟩ := List.getElem?_of_mem hm
    have h3 := h.symm _ _ hk (by omega) h2
    by_cases hji : j < i
    · rw [hs j _ hji hj] at h3; cases h3
    · obtain ⟨l1, e1⟩ := List.getElem?_eq_some_iff.1 hi
      obtain ⟨l2, e2⟩ := List.getElem?_eq_some_iff.1 hj
      have := List.pairwise_iff_getElem.1 (fstK_rise E k) i j l1 l2
      by_cases e : i = j
      · subst e
        rw [hi] at hj
        exact (Option.some.inj hj).symm
      · have := this (by omega)
        omega
/-- The parts, by their least points. -/
structure Units (n : Nat) (bs : List (List Nat)) (O : List Nat) : Prop where
  lo : O.length = n
  len : bs.length = (fsts n O).length
  unit : ∀ p, p < n → O.getD p 0 < n ∧ O.getD (O.getD p 0) 0 = O.getD p 0
  mem : ∀ (i u : Nat), (fsts n O)[i]? = some u → ∃ bl, bs[i]? = some bl ∧ ∀ p, p ∈ bl ↔ p < n ∧ O.getD p 0 = u
theorem Units.idx {n : Nat} {bs : List (List Nat)} {O : List Nat} (h : Units n bs O) {p : Nat} (hp : p < n) : ∃ i : Nat, (fsts n O)[i]? = some (O.getD p 0) := by
  obtain ⟨h1, h2⟩ := h.unit p hp
  exact List.getElem?_of_mem (fsts_mem.2 ⟨h1, h2⟩)
theorem Units.blk {n : Nat} {bs : List (List Nat)} {O : List Nat} (h : Units n bs O) {p i : Nat} (hp : p < n) (hi : (fsts n O)[i]? = some (O.getD p 0)) : (blkK n bs bs.length).getD p 0 = (i : Int) := by
  have key : ∀ k, k ≤ (fsts n O).length → (blkK n bs k).getD p 0 = if i < k then (i : Int) else 0 := by
    intro k
    induction k with
    | zero =>
      intro _
      simp [blkK, List.getD_eq_getElem?_getD, hp]
    | succ k ih =>
      intro hk
      rw [blkK_succ, setAll_at _ _ _ _ (by rw [blkK_length]; exact hp), ih (by omega)]
      have hkl : k < (fsts n O).length := by omega
      obtain ⟨bl, hb1, hb2⟩ := h.mem k _ (List.getElem?_eq_getElem hkl)
      have e : bs.getD k [] = bl := by rw [List.getD_eq_getElem?_getD, hb1]; rfl
      rw [e]
      by_cases hik : i = k
      · subst hik
        have e2 : (fsts n O)[i] = O.getD p 0 := by
          rw [List.getElem?_eq_getElem hkl] at hi
          exact Option.some.inj hi
        rw [if_pos ((hb2 p).2 ⟨hp, e2.symm⟩), if_pos (by omega)]
      · have hnm : p ∉ bl := by
          intro hmem
          have := ((hb2 p).1 hmem).2
          apply hik
          exact rise_inj (fsts_rise n O) hi (by rw [List.getElem?_eq_getElem hkl, this])
        rw [if_neg hnm]
        by_cases hlt : i < k
        · rw [if_pos hlt, if_pos (by omega)]
        · rw [if_neg hlt, if_neg (by omega)]
  have hil := (List.getElem?_eq_some_iff.1 hi).1
  rw [h.len, key _ (Nat.le_refl _), if_pos hil]
theorem Units.BF {n : Nat} {bs : List (List Nat)} {O : List Nat} (h : Units n bs O) {F : Nat → Nat → Bool} {ps : List (Nat × Nat)} (hps : ∀ p q, (p, q) ∈ ps ↔ p < n ∧ q < n ∧ F p q = true) {i j u v : Nat} (hi : (fsts n O)[i]? = some u) (hj : (fsts n O)[j]? = some v) :
    Go.Proofs.YtijjogpldoafjabDoor.BF (blkK n bs bs.length) ps i j = true ↔ u ≠ v ∧ ∃ p q, p < n ∧ q < n ∧ F p q = true ∧ O.getD p 0 = u ∧ O.getD q 0 = v := by
  have huv : i = j ↔ u = v := by
    constructor
    · rintro rfl; rw [hi] at hj; exact Option.some.inj hj
    · rintro rfl; exact rise_inj (fsts_rise n O) hi hj
  unfold Go.Proofs.YtijjogpldoafjabDoor.BF
  rw [List.any_eq_true]
  constructor
  · rintro ⟨⟨p, q⟩, hm, hc⟩
    obtain ⟨hp, hq, hF⟩ := (hps p q).1 hm
    simp only [Bool.and_eq_true, bne_iff_ne, ne_eq, beq_iff_eq] at hc
    obtain ⟨⟨c1, c2⟩, c3⟩ := hc
    obtain ⟨i', hi'⟩ := h.idx hp
    obtain ⟨j', hj'⟩ := h.idx hq
    rw [h.blk hp hi'] at c2
    rw [h.blk hq hj'] at c3
    obtain rfl : i' = i := by omega
    obtain rfl : j' = j := by omega
    rw [hi] at hi'
    rw [hj] at hj'
    refine ⟨?_, p, q, hp, hq, hF, (Option.some.inj hi').symm, (Option.some.inj hj').symm⟩
    intro e
    have := huv.2 e
    subst this
    apply c1
    rw [h.blk hp (i := i') (by rw [hi, hi']), h.blk hq (i := i') (by rw [hj, hj'])]
  · rintro ⟨huv2, p, q, hp, hq, hF, h1, h2⟩
    refine ⟨(p, q), (hps p q).2 ⟨hp, hq, hF⟩, ?_⟩
    simp only [Bool.and_eq_true, bne_iff_ne, ne_eq, beq_iff_eq]
    rw [h.blk hp (i := i) (by rw [hi, h1]), h.blk hq (i := j) (by rw [hj, h2])]
    refine ⟨⟨?_, rfl⟩, rfl⟩
    intro e
    apply huv2
    apply huv.1
    omega
/-- Pairs between two parts. -/
def acrF (F : Nat → Nat → Bool) (O : List Nat) : Nat → Nat → Bool := fun p q => F p q && (O.getD p 0 != O.getD q 0)
def smV (n : Nat) (F : Nat → Nat → Bool) (O : List Nat) : Nat → Nat → Bool := SmU n (acrF F O) O (List.replicate n (-1))
theorem neg_getD (n p q : Nat) : (List.replicate n (-1 : Int)).getD p 0 ≠ ((q + 1 : Nat) : Int) := by
  rw [List.getD_eq_getElem?_getD]
  by_cases h : p < n
  · simp [h]; omega
  · simp [h]; omega
theorem smV_iff {n : Nat} {F : Nat → Nat → Bool} {O : List Nat} {u v : Nat} : smV n F O u v = true ↔ ∃ p q, p < n ∧ q < n ∧ F p q = true ∧ O.getD p 0 ≠ O.getD q 0 ∧ O.getD p 0 = u ∧ O.getD q 0 = v := by
  unfold smV
  rw [SmU_iff]
  constructor
  · rintro ⟨p, q, hp, hq, h1, h2, h3, h4⟩
    unfold acrF at h1
    rw [Bool.and_eq_true, bne_iff_ne] at h1
    exact ⟨p, q, hp, hq, h1.1, h1.2, h3, h4⟩
  · rintro ⟨p, q, hp, hq, h1, h2, h3, h4⟩
    refine ⟨p, q, hp, hq, ?_, ?_, h3, h4⟩
    · unfold acrF
      rw [Bool.and_eq_true, bne_iff_ne]
      exact ⟨h1, h2⟩
    · rw [List.getD_eq_getElem?_getD]
      simp [hp]
theorem Units.sm {n : Nat} {bs : List (List Nat)} {O : List Nat} (h : Units n bs O) {F : Nat → Nat → Bool} {ps : List (Nat × Nat)} (hps : ∀ p q, (p, q) ∈ ps ↔ p < n ∧ q < n ∧ F p q = true) {i j u v : Nat} (hi : (fsts n O)[i]? = some u) (hj : (fsts n O)[j]? = some v) :
    smV n F O u v = Go.Proofs.YtijjogpldoafjabDoor.BF (blkK n bs bs.length) ps i j := by
  rw [Bool.eq_iff_iff, smV_iff, h.BF hps hi hj]
  constructor
  · rintro ⟨p, q, hp, hq, h1, h2, h3, h4⟩
    exact ⟨by rw [← h3, ← h4]; exact h2, p, q, hp, hq, h1, h3, h4⟩
  · rintro ⟨hne, p, q, hp, hq, h1, h3, h4⟩
    exact ⟨p, q, hp, hq, h1, by rw [h3, h4]; exact hne, h3, h4⟩
/-- The least points of the parts that are laid. -/
def lastU (fs pts : List Nat) : List Nat := pts.map (fun i => fs.getD i 0)
theorem lastU_snoc (fs pts : List Nat) (j : Nat) : lastU fs (pts ++ [j]) = lastU fs pts ++ [fs.getD j 0] := by simp [lastU]
theorem lastU_mem {n : Nat} {O : List Nat} {pts : List Nat} (hlt : ∀ i ∈ pts, i < (fsts n O).length) {j u : Nat} (hj : (fsts n O)[j]? = some u) : (lastU (fsts n O) pts).contains u = pts.contains j := by
  rw [Bool.eq_iff_iff, List.contains_iff_mem, List.contains_iff_mem]
  unfold lastU
  constructor
  · intro hm
    obtain ⟨i, hi, e⟩ := List.mem_map.1 hm
    have hil := hlt i hi
    have e2 : (fsts n O)[i]? = some u := by
      rw [List.getElem?_eq_getElem hil]
      rw [List.getD_eq_getElem?_getD, List.getElem?_eq_getElem hil] at e
      simpa using e
    rw [rise_inj (fsts_rise n O) hj e2]
    exact hi
  · intro hm
    exact List.mem_map.2 ⟨j, hm, by rw [List.getD_eq_getElem?_getD, hj]; rfl⟩
theorem Units.free {n : Nat} {bs : List (List Nat)} {O : List Nat} (h : Units n bs O) {F : Nat → Nat → Bool} {ps : List (Nat × Nat)} (hps : ∀ p q, (p, q) ∈ ps ↔ p < n ∧ q < n ∧ F p q = true) {pts : List Nat} (hlt : ∀ i ∈ pts, i < (fsts n O).length) {j u : Nat} (hj : (fsts n O)[j]? = some u) :
    freeF n (smV n F O) (doneL n (lastU (fsts n O) pts)) u = freeF (fsts n O).length (Go.Proofs.YtijjogpldoafjabDoor.BF (blkK n bs bs.length) ps) (doneL (fsts n O).length pts) j := by
  have hu := fsts_mem.1 (List.mem_of_getElem? hj)
  have hjl := (List.getElem?_eq_some_iff.1 hj).1
  unfold freeF
  rw [doneL_at _ hu.1, doneL_at _ hjl, lastU_mem hlt hj]
  congr 1
  rw [Bool.eq_iff_iff, List.all_eq_true, List.all_eq_true]
  constructor
  · intro ha i hi
    have hi := List.mem_range.1 hi
    rw [doneL_at _ hi]
    have hfi : (fsts n O)[i]? = some (fsts n O)[i] := List.getElem?_eq_getElem hi
    generalize (fsts n O)[i] = v at hfi
    have hv := fsts_mem.1 (List.mem_of_getElem? hfi)
    have := ha v (List.mem_range.2 hv.1)
    rw [doneL_at _ hv.1, lastU_mem hlt hfi, h.sm hps hfi hj] at this
    exact this
  · intro ha a han
    have han := List.mem_range.1 han
    rw [doneL_at _ han]
    cases hS : smV n F O a u
    · rfl
    · obtain ⟨p, q, hp, hq, c1, c2, c3, c4⟩ := smV_iff.1 hS
      obtain ⟨i, hi⟩ := h.idx hp
      rw [c3] at hi
      have hil := (List.getElem?_eq_some_iff.1 hi).1
      have := ha i (List.mem_range.2 hil)
      rw [doneL_at _ hil, ← h.sm hps hi hj, hS, ← lastU_mem hlt hi] at this
      exact this
/-- The reference's choice is the program's. -/
theorem Units.least {L : List Nat} {bs : List (List Nat)} {O : List Nat} {F : Nat → Nat → Bool} (h : Units L.length bs O) (hT : TwO L.length F L) (hn : L.length ≤ 256) (hlow : ∀ R ∈ L, R < 2 ^ L.length) {pts : List Nat} (hlt : ∀ i ∈ pts, i < (fsts L.length O).length) {nx : Int}
    (hl : LeastP (fun p => O.getD p 0 == p && freeF L.length (smV L.length F O) (doneL L.length (lastU (fsts L.length O) pts)) p) L.length 0 nx) :
    (nx = -1 ∧ fz (wAll (betw L bs).length (pairsL (betw L bs)) pts) < 0) ∨ (∃ (j u : Nat), nx = (u : Int) ∧ (fsts L.length O)[j]? = some u ∧ fz (wAll (betw L bs).length (pairsL (betw L bs)) pts) = (j : Int)) := by
  have hps := fun p q => pairs_of hT hn hlow p q
  have hbl : (betw L bs).length = (fsts L.length O).length := by rw [betw_length, h.len]
  have hfl : (fsts L.length O).length ≤ L.length := by
    have := List.length_filter_le (fun p => O.getD p 0 == p) (List.range L.length)
    rw [List.length_range] at this
    exact this
  have hbw := betw_two L bs
  have hfree : ∀ (j u : Nat), (fsts L.length O)[j]? = some u → freeF L.length (smV L.length F O) (doneL L.length (lastU (fsts L.length O) pts)) u = freeF (betw L bs).length (Go.Proofs.YtijjogpldoafjabDoor.BF (blkK L.length bs bs.length) (pairsL L)) (doneL (betw L bs).length pts) j := by
    intro j u hj
    rw [hbl]
    exact h.free hps hlt hj
  rcases hl with ⟨rfl, h1⟩ | ⟨u, rfl, _, hu, h3, h4⟩
  · refine Or.inl ⟨rfl, ?_⟩
    have : LeastF (betw L bs).length (Go.Proofs.YtijjogpldoafjabDoor.BF (blkK L.length bs bs.length) (pairsL L)) (doneL (betw L bs).length pts) 0 (-1) := by
      refine .inl ⟨rfl, fun q _ hq => ?_⟩
      obtain ⟨u, u1, u2, u3, u4⟩ := fs_at (n := L.length) (O := O) (i := q) (by omega)
      have := h1 u (Nat.zero_le _) u3
      simp only [] at this
      rw [u4, beq_self_eq_true, Bool.true_and, hfree q u u1] at this
      exact this
    have e := LeastF.fz hbw (by omega) (betw_low _ _) this
    omega
  · simp only [] at h3 h4
    rw [Bool.and_eq_true, beq_iff_eq] at h3
    obtain ⟨j, hj⟩ := List.getElem?_of_mem (fsts_mem.2 ⟨hu, h3.1⟩)
    have hjl := (List.getElem?_eq_some_iff.1 hj).1
    refine Or.inr ⟨j, u, rfl, hj, ?_⟩
    have : LeastF (betw L bs).length (Go.Proofs.YtijjogpldoafjabDoor.BF (blkK L.length bs bs.length) (pairsL L)) (doneL (betw L bs).length pts) 0 (j : Int) := by
      refine .inr ⟨j, rfl, Nat.zero_le _, by omega, by rw [← hfree j u hj]; exact h3.2, fun q _ hq => ?_⟩
      obtain ⟨u', u1, u2, u3, u4⟩ := fs_at (n := L.length) (O := O) (i := q) (by omega)
      have hlt' := (rise_lt (fsts_rise L.length O) u1 hj).1 hq
      have := h4 u' (Nat.zero_le _) hlt'
      rw [u4, beq_self_eq_true, Bool.true_and, hfree q u' u1] at this
      exact this
    exact (LeastF.fz hbw (by omega) (betw_low _ _) this).symm
/-- Where none may come any more, all that Sort lays is laid. -/
theorem SrtAt.over {L : List Nat} {i : Nat} {pts : List Nat} (h : SrtAt L i pts) (hf : fz (wAll L.length (pairsL L) pts) < 0) : sortOf L = pts := by
  have hle := h.le
  rw [h.srt, show L.length + 1 - i = (L.length - i) + 1 by omega]
  unfold Go.Proofs.YtijjogpldoafjabDoor.srt
  rw [if_neg (by omega)]
theorem fz_neg {l : List Int} (h : fz l < 0) (q : Nat) : l[q]? ≠ some 0 := by
  intro e
  unfold fz at h
  split at h
  · rename_i i hi
    omega
  · rename_i hi
    rw [List.findIdx?_eq_none_iff] at hi
    have := hi 0 (List.mem_of_getElem? e)
    simp at this
/-- Sort lays all, or comes to where none may come. -/
theorem srt_ends (L : List Nat) : ∀ k, k ≤ L.length → (∃ pts, SrtAt L k pts) ∨ ∃ i pts, SrtAt L i pts ∧ i < L.length ∧ fz (wAll L.length (pairsL L) pts) < 0
  | 0, _ => .inl ⟨[], SrtAt.begin L⟩
  | k + 1, hk => by
    rcases srt_ends L k (by omega) with ⟨pts, h⟩ | h
    · by_cases hf : fz (wAll L.length (pairsL L) pts) < 0
      · exact .inr ⟨k, pts, h, by omega, hf⟩
      · obtain ⟨p, e, _⟩ := fz_range (l := wAll L.length (pairsL L) pts) (by omega)
        exact .inl ⟨_, h.next (by omega) e⟩
    · exact .inr h
/-- Ranks that rise along pairs: Sort lays all. -/
theorem sort_all (L : List Nat) (rank : Nat → Nat) (hr : ∀ i j, (i, j) ∈ pairsL L → i < L.length ∧ rank i < rank j) : (sortOf L).length = L.length := by
  rcases srt_ends L L.length (Nat.le_refl _) with ⟨pts, h⟩ | ⟨i, pts, h, hi, hf⟩
  · rw [h.full, h.len]
  · exfalso
    have key : ∀ r j, rank j ≤ r → j < L.length → j ∈ pts := by
      intro r
      induction r with
      | zero =>
        intro j hj hjl
        refine Classical.byContradiction fun hnp => ?_
        apply fz_neg hf j
        rw [wAll_at _ _ hjl]
        congr 1
        unfold wAt
        rw [if_neg (by simpa using hnp)]
        have : (pairsL L).filter (fun x => x.2 == j && !pts.contains x.1) = [] := by
          rw [List.filter_eq_nil_iff]
          rintro ⟨a, q⟩ hx hc
          simp only [Bool.and_eq_true, beq_iff_eq] at hc
          obtain ⟨rfl, _⟩ := hc
          have := (hr a q hx).2
          omega
        rw [this]; rfl
      | succ r ih =>
        intro j hj hjl
        refine Classical.byContradiction fun hnp => ?_
        apply fz_neg hf j
        rw [wAll_at _ _ hjl]
        congr 1
        unfold wAt
        rw [if_neg (by simpa using hnp)]
        have : (pairsL L).filter (fun x => x.2 == j && !pts.contains x.1) = [] := by
          rw [List.filter_eq_nil_iff]
          rintro ⟨a, q⟩ hx hc
          simp only [Bool.and_eq_true, beq_iff_eq, Bool.not_eq_true'] at hc
          obtain ⟨rfl, hc⟩ := hc
          have h1 := hr a q hx
          have := ih a (by omega) h1.1
          rw [List.contains_iff_mem.2 this] at hc
          cases hc
        rw [this]; rfl
    have := sub_len (List.range L.length) pts List.nodup_range (fun j hj => key (rank j) j (Nat.le_refl _) (List.mem_range.1 hj))
    rw [List.length_range, h.len] at this
    omega
/-- A relation's closure, as a table. -/
structure Clo (n : Nat) (F C : Nat → Nat → Bool) : Prop where
  sub : ∀ p q, p < n → q < n → F p q = true → C p q = true
  trans : ∀ p q r, p < n → q < n → r < n → C p q = true → C q r = true → C p r = true
def bothE (C : Nat → Nat → Bool) (p q : Nat) : Bool := C p q && C q p
theorem Clo.eqv {n : Nat} {F C : Nat → Nat → Bool} (h : Clo n F C) : Eqv n (bothE C) := by
  refine ⟨fun p q _ _ e => ?_, fun p q r hp hq hr e1 e2 => ?_⟩
  · unfold bothE at e ⊢
    rw [Bool.and_comm]
    exact e
  · unfold bothE at e1 e2 ⊢
    rw [Bool.and_eq_true] at e1 e2 ⊢
    exact ⟨h.trans p q r hp hq hr e1.1 e2.1, h.trans r q p hr hq hp e2.2 e1.2⟩
def offs (E : Nat → Nat → Bool) (n : Nat) : List Nat := (List.range n).map (leastE E)
theorem offs_at {E : Nat → Nat → Bool} {n p : Nat} (hp : p < n) : (offs E n).getD p 0 = leastE E p := by
  simp [offs, List.getD_eq_getElem?_getD, hp]
theorem offs_fsts (E : Nat → Nat → Bool) (n : Nat) : fsts n (offs E n) = fstK E n := by
  unfold fsts fstK
  apply List.filter_congr
  intro p hp
  rw [offs_at (List.mem_range.1 hp)]
theorem units_cls {n : Nat} {E : Nat → Nat → Bool} (h : Eqv n E) : Units n (clsK E n) (offs E n) := by
  refine ⟨by simp [offs], by rw [offs_fsts]; simp [clsK], fun p hp => ?_, fun i u hi => ?_⟩
  · have hl := leastE_le E p
    rw [offs_at hp, offs_at (by omega)]
    exact ⟨by omega, leastE_idem h hp⟩
  · rw [offs_fsts] at hi
    refine ⟨clK E n u, by unfold clsK; rw [List.getElem?_map, hi]; rfl, fun p => ?_⟩
    rw [clK_mem]
    constructor
    · rintro ⟨h1, h2⟩; exact ⟨h1, by rw [offs_at h1]; exact h2⟩
    · rintro ⟨h1, h2⟩; exact ⟨h1, by rw [offs_at h1] at h2; exact h2⟩
/-- How many lead to a point, itself among them. -/
def leadN (n : Nat) (C : Nat → Nat → Bool) (u : Nat) : Nat := ((List.range n).filter (fun x => x == u || C x u)).length
theorem lead_lt {n : Nat} {F C : Nat → Nat → Bool} (h : Clo n F C) {u v : Nat} (hu : u < n) (hv : v < n) (huv : C u v = true) (hvu : C v u = false) (hne : u ≠ v) : leadN n C u < leadN n C v := by
  unfold leadN
  have hnd : ((List.range n).filter (fun x => x == u || C x u)).Nodup := List.nodup_range.sublist List.filter_sublist
  have := sub_len (v :: (List.range n).filter (fun x => x == u || C x u)) ((List.range n).filter (fun x => x == v || C x v)) (List.nodup_cons.2 ⟨?_, hnd⟩) ?_
  · rw [List.length_cons] at this
    omega
  · intro hm
    have := (List.mem_filter.1 hm).2
    rw [Bool.or_eq_true, beq_iff_eq] at this
    rcases this with e | e
    · exact hne e.symm
    · rw [hvu] at e; cases e
  · intro x hx
    rcases List.mem_cons.1 hx with rfl | hx
    · exact List.mem_filter.2 ⟨List.mem_range.2 hv, by simp⟩
    · obtain ⟨h1, h2⟩ := List.mem_filter.1 hx
      have hxn := List.mem_range.1 h1
      refine List.mem_filter.2 ⟨h1, ?_⟩
      rw [Bool.or_eq_true, beq_iff_eq] at h2 ⊢
      right
      rcases h2 with rfl | h2
      · exact huv
      · exact h.trans x u v hxn hu hv h2 huv
/-- Lists that led to each other in a round would be one: Sort lays them all. -/
theorem comps_all {L : List Nat} {F C : Nat → Nat → Bool} (hT : TwO L.length F L) (hn : L.length ≤ 256) (hlow : ∀ R ∈ L, R < 2 ^ L.length) (hC : Clo L.length F C) : (sortOf (betw L (clsK (bothE C) L.length))).length = (clsK (bothE C) L.length).length := by
  have hE := hC.eqv
  have hU := units_cls hE
  have hbl : (betw L (clsK (bothE C) L.length)).length = (fsts L.length (offs (bothE C) L.length)).length := by rw [betw_length, hU.len]
  have hps := fun p q => pairs_of hT hn hlow p q
  have hfl : (fsts L.length (offs (bothE C) L.length)).length ≤ L.length := by
    have := List.length_filter_le (fun p => (offs (bothE C) L.length).getD p 0 == p) (List.range L.length)
    rw [List.length_range] at this
    exact this
  have := sort_all (betw L (clsK (bothE C) L.length)) (fun i => leadN L.length C ((fsts L.length (offs (bothE C) L.length)).getD i 0)) ?_
  · rw [this, betw_length]
  · intro i j hij
    have hlt := pairsL_lt (betw_low L (clsK (bothE C) L.length)) _ hij
    refine ⟨hlt.1, ?_⟩
    rw [hbl] at hlt
    have hB := ((betw_two L (clsK (bothE C) L.length)).pairs (by omega) (betw_low _ _) (p := i) (q := j) (by rw [hbl]; exact hlt.1) (by rw [hbl]; exact hlt.2)).2 hij
    obtain ⟨u, u1, u2, u3, u4⟩ := fs_at hlt.1
    obtain ⟨v, v1, v2, v3, v4⟩ := fs_at hlt.2
    obtain ⟨hne, p, q, hp, hq, hF, hpu, hqv⟩ := (hU.BF hps u1 v1).1 hB
    rw [offs_at hp] at hpu
    rw [offs_at hq] at hqv
    show leadN L.length C ((fsts L.length (offs (bothE C) L.length)).getD i 0) < leadN L.length C ((fsts L.length (offs (bothE C) L.length)).getD j 0)
    rw [u2, v2]
    have side : ∀ p u, p < L.length → leastE (bothE C) p = u → u = p ∨ (C u p = true ∧ C p u = true) := by
      intro p u hp e
      rcases leastE_cases (bothE C) p with ⟨h1, _⟩ | ⟨_, h2, _⟩
      · left; rw [← e, h1]
      · right
        rw [e] at h2
        unfold bothE at h2
        rw [Bool.and_eq_true] at h2
        exact ⟨h2.2, h2.1⟩
    have hCpq := hC.sub p q hp hq hF
    have h1 : C u q = true := by
      rcases side p u hp hpu with rfl | ⟨e, _⟩
      · exact hCpq
      · exact hC.trans u p q u3 hp hq e hCpq
    have h2 : C u v = true := by
      rcases side q v hq hqv with rfl | ⟨_, e⟩
      · exact h1
      · exact hC.trans u q v u3 hq v3 h1 e
    refine lead_lt hC u3 v3 h2 ?_ hne
    rw [Bool.eq_false_iff]
    intro e
    apply hne
    have h3 := (leastE_same hE u3 v3).2 (.inr (by unfold bothE; rw [h2, e]; rfl))
    rw [offs_at u3] at u4
    rw [offs_at v3] at v4
    rw [u4, v4] at h3
    exact h3
/-- The closure that the program makes. -/
def cloB (L : List Nat) (p q : Nat) : Bool := (gr (plusL L) p).testBit q
theorem clo_plus {L : List Nat} {F : Nat → Nat → Bool} (hT : TwO L.length F L) (hw : WF L.length L) : Clo L.length F (cloB L) := by
  refine ⟨fun p q hp hq e => ?_, fun p q r _ _ _ e1 e2 => ?_⟩
  · have : hs L p q := by unfold hs; rw [← hT.same p q hp hq]; exact e
    exact (hs_plus hw p q).2 (Relation.TransGen.single this)
  · exact (hs_plus hw p r).2 (Relation.TransGen.trans ((hs_plus hw p q).1 e1) ((hs_plus hw q r).1 e2))
/-- What Components answers. -/
def compsL (L : List Nat) : List (List Nat) := sbOf L (clsK (bothE (cloB L)) L.length)
theorem wf_of_low {L : List Nat} (hlow : ∀ R ∈ L, R < 2 ^ L.length) : WF L.length L := by
  refine ⟨rfl, fun p q hq => ?_⟩
  apply Nat.lt_of_not_le
  intro hle
  have h1 := testBit_of_lt (gr_lt hlow (i := p)) hle
  unfold hs at hq
  rw [h1] at hq
  cases hq
end Go.Proofs.YtijjogpldoafjabDoor
/- Lists of numbers of our own, each in a block of its own, and the list of them. -/
namespace Go.Proofs.YtijjogpldoafjabDoor
open Go.RowKit Go.Shelf Sx

theorem owns_keep {W W' : World} {base : Nat} {e : TypeId} {size : Nat} {v : Value} {n : Nat} {xs : List Value} (h : W.ownsRow base e size v n xs) (hk : ∀ g, v.ownBlock = some g → W'.heap[g]? = W.heap[g]?) : W'.ownsRow base e size v n xs := by
  refine ⟨h.1, ?_⟩
  rcases h.2 with h2 | ⟨g, cap, cur, rfl, hb, hg, rest⟩
  · exact .inl h2
  · exact .inr ⟨g, cap, cur, rfl, hb, (hk g rfl).trans hg, rest⟩
theorem owns_blk {W : World} {base : Nat} {e : TypeId} {size : Nat} {v : Value} {n : Nat} {xs : List Value} (h : W.ownsRow base e size v n xs) {g : Nat} (hg : v.ownBlock = some g) : ∃ cur, Blk W g e cur := by
  rcases h.2 with ⟨rfl, _⟩ | ⟨g', cap, cur, rfl, hb, hg', _⟩
  · cases hg
  · simp [Value.ownBlock] at hg
    subst hg
    exact ⟨cur, hg'⟩
theorem blk_type {W : World} {g : Nat} {e e' : TypeId} {c c' : Array Value} (h : Blk W g e c) (k : Blk W g e' c') : e = e' := by
  have := h.symm.trans k
  simp at this
  exact this.2
/-- Each list lies in a block of its own. -/
structure OwnL (W : World) (base : Nat) (vs : List Value) (ls : List (List Int)) : Prop where
  len : vs.length = ls.length
  row : ∀ (i : Nat) (x : Value) (l : List Int), vs[i]? = some x → ls[i]? = some l → W.ownsRow base 3 1 x l.length (encJ l)
  apart : ∀ (i j : Nat) (x y : Value) (g : Nat), vs[i]? = some x → vs[j]? = some y → x.ownBlock = some g → y.ownBlock = some g → i = j
theorem OwnL.at_ {W : World} {base : Nat} {vs : List Value} {ls : List (List Int)} (h : OwnL W base vs ls) {i : Nat} {x : Value} (hx : vs[i]? = some x) : ∃ l, ls[i]? = some l ∧ W.ownsRow base 3 1 x l.length (encJ l) := by
  have hi : i < vs.length := (List.getElem?_eq_some_iff.1 hx).1
  have hl : ls[i]? = some (ls[i]'(by have := h.len; omega)) := List.getElem?_eq_getElem _
  exact ⟨_, hl, h.row i x _ hx hl⟩
theorem OwnL.keep {W W' : World} {base : Nat} {vs : List Value} {ls : List (List Int)} (h : OwnL W base vs ls) (hk : ∀ (i : Nat) (x : Value) (g : Nat), vs[i]? = some x → x.ownBlock = some g → W'.heap[g]? = W.heap[g]?) : OwnL W' base vs ls :=
  ⟨h.len, fun i x l hx hl => owns_keep (h.row i x l hx hl) (fun g hg => hk i x g hx hg), h.apart⟩
theorem OwnL.lt {W : World} {base : Nat} {vs : List Value} {ls : List (List Int)} (h : OwnL W base vs ls) {i : Nat} {x : Value} {g : Nat} (hx : vs[i]? = some x) (hg : x.ownBlock = some g) : base ≤ g ∧ g < W.heap.size := by
  obtain ⟨l, _, ho⟩ := h.at_ hx
  exact ho.lt g hg
theorem OwnL.step {W W' : World} {base : Nat} {vs : List Value} {ls : List (List Int)} (h : OwnL W base vs ls) (hb : Below W.heap.size W W') : OwnL W' base vs ls := h.keep (fun _ _ g hx hg => hb.block g (h.lt hx hg).2)
/-- The list of the lists. -/
structure ClR (W : World) (base : Nat) (v : Value) (vs : List Value) (ls : List (List Int)) : Prop where
  own : W.ownsRow base 26 1 v vs.length vs
  rows : OwnL W base vs ls
theorem ClR.step {W W' : World} {base : Nat} {v : Value} {vs : List Value} {ls : List (List Int)} (h : ClR W base v vs ls) (hb : Below W.heap.size W W') : ClR W' base v vs ls := ⟨owns_below' h.own hb, h.rows.step hb⟩
theorem ClR.nil (W : World) (base : Nat) : ClR W base (.slice none 0 0) [] [] := ⟨World.ownsRow_nil _ _ _ _, rfl, fun i x l h => by simp at h, fun i j x y g h => by simp at h⟩
theorem ClR.ne {W : World} {base : Nat} {v : Value} {vs : List Value} {ls : List (List Int)} (h : ClR W base v vs ls) {i : Nat} {x : Value} {g : Nat} (hx : vs[i]? = some x) (hg : x.ownBlock = some g) : v.ownBlock ≠ some g := by
  intro e
  obtain ⟨l, _, ho⟩ := h.rows.at_ hx
  obtain ⟨c1, h1⟩ := owns_blk ho hg
  obtain ⟨c2, h2⟩ := owns_blk h.own e
  exact absurd (blk_type h1 h2) (by decide)
theorem owns_one {W : World} {base s : Nat} {x : Int} (h : Blk W s 3 #[.int .i64 x]) (hb : base ≤ s) : W.ownsRow base 3 1 (.slice (some ⟨s, 0, none⟩) 1 1) 1 (encJ [x]) :=
  ⟨by simp [encJ], .inr ⟨s, 1, _, rfl, hb, h, Nat.le_refl _, by decide, by simp, by simp [encJ]⟩⟩
theorem ClR.add {W W5 : World} {base : Nat} {v v' x : Value} {vs : List Value} {ls : List (List Int)} {l : List Int} {o : Obj} (h : ClR W base v vs ls) (hx : W.ownsRow base 3 1 x l.length (encJ l)) (hap : ∀ (i : Nat) (y : Value) (g : Nat), vs[i]? = some y → y.ownBlock = some g → x.ownBlock ≠ some g)
    (hown : W5.ownsRow base 26 1 v' (vs.length + 1) (vs ++ [x])) (hg : (W.alloc o).grownBy W5 v.ownBlock) : ClR W5 base v' (vs ++ [x]) (ls ++ [l]) := by
  have old : ∀ (i : Nat) (y : Value) (g : Nat), vs[i]? = some y → y.ownBlock = some g → W5.heap[g]? = W.heap[g]? := fun i y g hy hyg => by
    have hl := (h.rows.lt hy hyg).2
    rw [hg.block g (by simp; omega) (fun e => h.ne hy hyg e.symm), Below.heap_alloc _ _ _ hl]
  have hnew : W5.ownsRow base 3 1 x l.length (encJ l) := owns_keep hx (fun g e => by
    have hl := (hx.lt g e).2
    rw [hg.block g (by simp; omega) (fun e2 => by
      obtain ⟨c1, h1⟩ := owns_blk hx e
      obtain ⟨c2, h2⟩ := owns_blk h.own e2.symm
      exact absurd (blk_type h1 h2) (by decide)), Below.heap_alloc _ _ _ hl])
  have hlen := h.rows.len
  have key : ∀ (i : Nat) (y : Value), (vs ++ [x])[i]? = some y → (i < vs.length ∧ vs[i]? = some y) ∨ (i = vs.length ∧ y = x) := fun i y hy => by
    by_cases hi : i < vs.length
    · rw [List.getElem?_append_left hi] at hy
      exact .inl ⟨hi, hy⟩
    · have hi2 : i = vs.length := by have := (List.getElem?_eq_some_iff.1 hy).1; simp at this; omega
      subst hi2
      rw [List.getElem?_append_right (Nat.le_refl _)] at hy
      simp at hy
      exact .inr ⟨rfl, hy.symm⟩
  refine ⟨by rw [List.length_append]; exact hown, by simp [hlen], fun i y l' hy hl => ?_, fun i j y z g hy hz h1 h2 => ?_⟩
  · rcases key i y hy with ⟨hi, hy⟩ | ⟨rfl, rfl⟩
    · rw [List.getElem?_append_left (by omega)] at hl
      exact owns_keep (h.rows.row i y l' hy hl) (fun g e => old i y g hy e)
    · rw [hlen, List.getElem?_append_right (Nat.le_refl _)] at hl
      simp at hl
      subst hl
      exact hnew
  · rcases key i y hy with ⟨a1, a2⟩ | ⟨a1, rfl⟩
    · rcases key j z hz with ⟨b1, b2⟩ | ⟨b1, rfl⟩
      · exact h.rows.apart i j y z g a2 b2 h1 h2
      · exact absurd h2 (hap i y g a2 h1)
    · rcases key j z hz with ⟨b1, b2⟩ | ⟨b1, rfl⟩
      · exact absurd h1 (hap j z g b2 h2)
      · omega
theorem ClR.push {W W5 : World} {base : Nat} {v v' : Value} {vs : List Value} {ls : List (List Int)} {x : Int} {o : Obj} (h : ClR W base v vs ls) (hb : base ≤ W.heap.size)
    (hown : W5.ownsRow base 26 1 v' (vs.length + 1) (vs ++ [.slice (some ⟨W.heap.size, 0, none⟩) 1 1])) (hg : ((W.alloc (.cells #[.int .i64 x] 3)).alloc o).grownBy W5 v.ownBlock) : ClR W5 base v' (vs ++ [.slice (some ⟨W.heap.size, 0, none⟩) 1 1]) (ls ++ [[x]]) := by
  refine (h.step ((Below.refl _ W).alloc (Nat.le_refl _) (.cells #[.int .i64 x] 3))).add (l := [x]) (owns_one (Blk.new W _ _) hb) (fun i y g hy hyg e => ?_) hown hg
  have h1 := (h.rows.lt hy hyg).2
  simp [Value.ownBlock] at e
  omega
theorem OwnL.swap {W W' : World} {base : Nat} {vs : List Value} {ls : List (List Int)} (h : OwnL W base vs ls) {i : Nat} {x x' : Value} {l' : List Int} (hx : vs[i]? = some x) (ho : W'.ownsRow base 3 1 x' l'.length (encJ l')) (hat : x'.ownBlock = x.ownBlock ∨ ∃ N, x'.ownBlock = some N ∧ W.heap.size ≤ N)
    (hk : ∀ k, k < W.heap.size → (∃ (j : Nat) (y : Value), vs[j]? = some y ∧ y.ownBlock = some k) → some k ≠ x.ownBlock → W'.heap[k]? = W.heap[k]?) : OwnL W' base (vs.set i x') (ls.set i l') := by
  have hi : i < vs.length := (List.getElem?_eq_some_iff.1 hx).1
  have hli := h.len
  refine ⟨by simp [hli], fun j y l hy hl => ?_, fun j k y z g hy hz h1 h2 => ?_⟩
  · rw [List.getElem?_set] at hy hl
    by_cases e : i = j
    · subst e
      rw [if_pos rfl, if_pos hi] at hy
      rw [if_pos rfl, if_pos (by omega)] at hl
      cases hy; cases hl
      exact ho
    · rw [if_neg e] at hy hl
      refine owns_keep (h.row j y l hy hl) (fun g hg => hk g (h.lt hy hg).2 ⟨j, y, hy, hg⟩ (fun e2 => e (h.apart i j x y g hx hy e2.symm hg)))
  · rw [List.getElem?_set] at hy hz
    have other : ∀ (j : Nat) (y : Value), i ≠ j → vs[j]? = some y → y.ownBlock = some g → x'.ownBlock = some g → False := fun j y hne hy hg hg' => by
      rcases hat with e | ⟨N, e, hN⟩
      · rw [e] at hg'
        exact hne (h.apart i j x y g hx hy hg' hg)
      · rw [e] at hg'
        have := (h.lt hy hg).2
        simp at hg'
        omega
    by_cases e : i = j
    · subst e
      rw [if_pos rfl, if_pos hi] at hy
      cases hy
      by_cases e2 : i = k
      · exact e2
      · rw [if_neg e2] at hz
        exact (other k z e2 hz h2 h1).elim
    · rw [if_neg e] at hy
      by_cases e2 : i = k
      · subst e2
        rw [if_pos rfl, if_pos hi] at hz
        cases hz
        exact (other j y e hy h1 h2).elim
      · rw [if_neg e2] at hz
        exact h.apart j k y z g hy hz h1 h2
/-- A list is longer by one: its new slice is stored in its place. -/
theorem ClR.grow {W W5 : World} {base g cap i m : Nat} {vs : List Value} {ls : List (List Int)} {x x' : Value} {l : List Int} {p : Int} {o : Obj} (h : ClR W base (.slice (some ⟨g, 0, none⟩) m cap) vs ls) (hx : vs[i]? = some x)
    (hown : W5.ownsRow base 3 1 x' (l.length + 1) (encJ l ++ [.int .i64 p])) (hg : (W.alloc o).grownBy W5 x.ownBlock) (hat : x'.ownBlock = x.ownBlock ∨ x'.ownBlock = some (W.alloc o).heap.size) :
    ClR (W5.setCell ⟨g, i, none⟩ x') base (.slice (some ⟨g, 0, none⟩) m cap) (vs.set i x') (ls.set i (l ++ [p])) := by
  have hm : m = vs.length := by
    rcases h.own.2 with ⟨e, _⟩ | ⟨g', c', cur, e, _⟩
    · cases e
    · injection e
  subst hm
  have hgx : some g ≠ x.ownBlock := fun e => h.ne hx e.symm rfl
  have hgl : g < W.heap.size := (h.own.lt g rfl).2
  have ho5 : W5.ownsRow base 26 1 (.slice (some ⟨g, 0, none⟩) vs.length cap) vs.length vs := owns_keep h.own (fun k hk => by
    simp [Value.ownBlock] at hk
    subst hk
    rw [hg.block g (by simp; omega) hgx, Below.heap_alloc _ _ _ hgl])
  have hx'g : x'.ownBlock ≠ some g := fun e => by
    obtain ⟨c1, h1⟩ := owns_blk hown e
    obtain ⟨c2, h2⟩ := owns_blk ho5 (g := g) rfl
    exact absurd (blk_type h1 h2) (by decide)
  refine ⟨?_, h.rows.swap hx ?_ ?_ ?_⟩
  · rw [List.length_set]
    exact (ho5.stored i x').1
  · rw [show encJ (l ++ [p]) = encJ l ++ [.int .i64 p] from encJ_snoc l p, List.length_append]
    refine owns_keep hown (fun k hk => Below.heap_setCell _ _ _ _ (fun e => ?_))
    have e : k = g := e
    exact hx'g (by rw [← e]; exact hk)
  · rcases hat with e | e
    · exact .inl e
    · exact .inr ⟨_, e, by simp⟩
  · rintro k hk ⟨j, y, hy, hyk⟩ hne
    have hkg : k ≠ g := fun e => h.ne hy hyk (by rw [← e] ; rfl)
    rw [Below.heap_setCell _ _ _ _ (show k ≠ (⟨g, i, none⟩ : Addr).block from hkg), hg.block k (by simp; omega) hne, Below.heap_alloc _ _ _ hk]
theorem ClR.lo {W : World} {base b' : Nat} {v : Value} {vs : List Value} {ls : List (List Int)} (h : ClR W base v vs ls) (hb : b' ≤ base) : ClR W b' v vs ls :=
  ⟨owns_lo h.own hb, h.rows.len, fun i x l hx hl => owns_lo (h.rows.row i x l hx hl) hb, h.rows.apart⟩
/-- What can be read of it. -/
theorem ClR.blocks {W : World} {base : Nat} {v : Value} {vs : List Value} {bs : List (List Nat)} (h : ClR W base v vs (bs.map toI)) : BlocksR W v bs := by
  have hlen : vs.length = bs.length := by have := h.rows.len; simpa using this
  obtain ⟨a, cap, e⟩ := owns_len h.own
  refine ⟨a, cap, by rw [← hlen]; exact e, vs, hlen, fun h0 => ?_, fun i u bl hu hbl => ?_⟩
  · obtain ⟨s, cap', e1, h1, h2⟩ := owns_cells h.own rfl (by omega)
    rw [e] at e1
    injection e1 with e1 _ _
    exact ⟨s, e1, h1, h2⟩
  · exact owns_intsR (h.rows.row i u (toI bl) hu (by rw [List.getElem?_map, hbl]; rfl))
end Go.Proofs.YtijjogpldoafjabDoor
