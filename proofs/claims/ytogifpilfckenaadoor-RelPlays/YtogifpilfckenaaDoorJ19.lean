/- Relations as lists of rows: which pairs each maker's answer has, and the laws of sets of pairs. -/
import Derived.Test.YtogifpilfckenaaDoorJ17
import Derived.Test.YtogifpilfckenaaDoorJ08
import Derived.Test.YtogifpilfckenaaDoorJ18
namespace Go.Proofs.YtogifpilfckenaaDoor
open Go.RowKit Go.Shelf Sx Relation

/-- Is (p, q) in the relation? -/
def hs (L : List Nat) (p q : Nat) : Prop := (gr L p).testBit q = true
structure WF (n : Nat) (L : List Nat) : Prop where
  len : L.length = n
  low : ∀ p q, hs L p q → q < n
theorem hs_left {L : List Nat} {p q : Nat} (h : hs L p q) : p < L.length := by
  apply Nat.lt_of_not_le
  intro hle
  unfold hs at h
  rw [gr_not (by omega)] at h
  simp at h
theorem IsRel.wf {w : World} {b c : Nat} {L : List Nat} (h : IsRel w b c L) {n : Nat} (hn : L.length = n) : WF n L := by
  refine ⟨hn, fun p q hq => ?_⟩
  apply Nat.lt_of_not_le
  intro hle
  have h1 := testBit_of_lt (h.gr_lt p) (by omega : L.length ≤ q)
  unfold hs at hq
  rw [h1] at hq
  cases hq
theorem WF.ext {n : Nat} {A B : List Nat} (ha : WF n A) (hb : WF n B) (h : ∀ p q, hs A p q ↔ hs B p q) : A = B := by
  apply List.ext_getElem?
  intro p
  by_cases hp : p < n
  · rw [gr_of (by rw [ha.len]; exact hp), gr_of (by rw [hb.len]; exact hp)]
    congr 1
    apply Nat.eq_of_testBit_eq
    intro q
    rw [Bool.eq_iff_iff]
    exact h p q
  · rw [List.getElem?_eq_none (by rw [ha.len]; omega), List.getElem?_eq_none (by rw [hb.len]; omega)]

theorem join_bits (L : List Nat) (q : Nat) : ∀ (l : List Nat) (s : Nat), (l.foldl (fun s p => s ||| gr L p) s).testBit q = true ↔ s.testBit q = true ∨ ∃ p ∈ l, hs L p q
  | [], s => by simp
  | x :: l, s => by
    rw [List.foldl_cons, join_bits L q l, Nat.testBit_or, Bool.or_eq_true]
    unfold hs
    simp [or_assoc]
theorem hs_fill {n k : Nat} {f : Nat → Nat} {p q : Nat} (hk : n ≤ k) : hs (fillK n f k) p q ↔ p < n ∧ (f p).testBit q = true := by
  by_cases hp : p < n
  · unfold hs
    rw [gr_eq (fillK_at hp), if_pos (by omega)]
    simp [hp]
  · constructor
    · intro h
      have := hs_left h
      rw [fillK_length] at this
      omega
    · exact fun h => absurd h.1 hp

section
variable {n : Nat} {A B C : List Nat}
theorem hs_comp (hn : n ≤ 256) (ha : WF n A) (hb : WF n B) (p q : Nat) : hs (compL A B) p q ↔ ∃ m, hs A p m ∧ hs B m q := by
  unfold compL
  rw [ha.len, hb.len, Nat.max_self, hs_fill (Nat.le_refl _)]
  unfold joinRows
  rw [join_bits]
  constructor
  · rintro ⟨_, h | ⟨m, hm, h⟩⟩
    · simp at h
    · exact ⟨m, (mem_bitsOf.1 hm).2, h⟩
  · rintro ⟨m, h1, h2⟩
    refine ⟨by have := hs_left h1; rw [ha.len] at this; exact this, Or.inr ⟨m, mem_bitsOf.2 ⟨?_, h1⟩, h2⟩⟩
    have := ha.low _ _ h1
    omega
theorem wf_comp (hn : n ≤ 256) (ha : WF n A) (hb : WF n B) : WF n (compL A B) := by
  refine ⟨by unfold compL; rw [fillK_length, ha.len, hb.len, Nat.max_self], fun p q h => ?_⟩
  obtain ⟨m, _, h2⟩ := (hs_comp hn ha hb p q).1 h
  exact hb.low _ _ h2
theorem hs_inter (ha : WF n A) (hb : WF n B) (p q : Nat) : hs (interL A B) p q ↔ hs A p q ∧ hs B p q := by
  unfold interL
  rw [ha.len, hb.len, Nat.max_self, hs_fill (Nat.le_refl _), Nat.testBit_and, Bool.and_eq_true]
  constructor
  · exact fun h => h.2
  · exact fun h => ⟨by have := hs_left h.1; rw [ha.len] at this; exact this, h⟩
theorem wf_inter (ha : WF n A) (hb : WF n B) : WF n (interL A B) := by
  refine ⟨by unfold interL; rw [fillK_length, ha.len, hb.len, Nat.max_self], fun p q h => ?_⟩
  exact ha.low _ _ ((hs_inter ha hb p q).1 h).1
theorem hs_minus (ha : WF n A) (hb : WF n B) (p q : Nat) : hs (minusL A B) p q ↔ hs A p q ∧ ¬ hs B p q := by
  unfold minusL
  rw [ha.len, hb.len, Nat.max_self, hs_fill (Nat.le_refl _), testBit_ldiff, Bool.and_eq_true, Bool.not_eq_true']
  unfold hs
  rw [Bool.not_eq_true]
  constructor
  · exact fun h => h.2
  · exact fun h => ⟨by have := hs_left (L := A) h.1; rw [ha.len] at this; exact this, h⟩
theorem wf_minus (ha : WF n A) (hb : WF n B) : WF n (minusL A B) := by
  refine ⟨by unfold minusL; rw [fillK_length, ha.len, hb.len, Nat.max_self], fun p q h => ?_⟩
  exact ha.low _ _ ((hs_minus ha hb p q).1 h).1
theorem hs_zero (m p q : Nat) : ¬ hs (List.replicate m 0) p q := by
  intro h
  have hp := hs_left h
  rw [List.length_replicate] at hp
  unfold hs at h
  rw [gr_eq (R := 0) (by simp [hp])] at h
  simp at h
theorem hs_uni {X : List Nat} (hx : X.length = n) (ha : WF n A) (p q : Nat) : hs (uniK X A A.length) p q ↔ hs X p q ∨ hs A p q := by
  by_cases hp : p < n
  · unfold hs
    rw [gr_uniK (by omega), if_pos (by rw [ha.len]; exact hp), Nat.testBit_or, Bool.or_eq_true]
  · constructor
    · intro h
      have := hs_left h
      rw [uniK_length] at this
      omega
    · rintro (h | h)
      · have := hs_left h; omega
      · have := hs_left h; rw [ha.len] at this; omega
theorem hs_union (ha : WF n A) (hb : WF n B) (p q : Nat) : hs (unionL [A, B]) p q ↔ hs A p q ∨ hs B p q := by
  have e : unionL [A, B] = uniK (uniK (List.replicate n 0) A A.length) B B.length := by
    simp [unionL, maxLenL, ha.len, hb.len]
  rw [e, hs_uni (by rw [uniK_length, List.length_replicate]) hb, hs_uni (by rw [List.length_replicate]) ha]
  constructor
  · rintro ((h | h) | h)
    · exact absurd h (hs_zero _ _ _)
    · exact Or.inl h
    · exact Or.inr h
  · rintro (h | h)
    · exact Or.inl (Or.inr h)
    · exact Or.inr h
theorem wf_union (ha : WF n A) (hb : WF n B) : WF n (unionL [A, B]) := by
  refine ⟨by simp [unionL, maxLenL, uniK_length, ha.len, hb.len], fun p q h => ?_⟩
  rcases (hs_union ha hb p q).1 h with h | h
  · exact ha.low _ _ h
  · exact hb.low _ _ h
theorem hs_opt (ha : WF n A) (p q : Nat) : hs (optL A) p q ↔ hs A p q ∨ (p = q ∧ p < n) := by
  by_cases hp : p < n
  · unfold hs optL
    rw [gr_eq (optK_at (by rw [ha.len]; exact hp)), if_pos (by rw [ha.len]; exact hp), testBit_setB]
    by_cases e : q = p
    · subst e; simp [hp]
    · rw [if_neg e]
      constructor
      · exact fun h => Or.inl h
      · rintro (h | ⟨h, _⟩)
        · exact h
        · exact absurd h.symm e
  · constructor
    · intro h
      have := hs_left h
      unfold optL at this
      rw [optK_length, ha.len] at this
      omega
    · rintro (h | h)
      · have := hs_left h; rw [ha.len] at this; omega
      · omega

/-! Inverse -/
theorem hs_set {X : List Nat} {j R p q : Nat} : hs (X.set j R) p q ↔ if p = j ∧ j < X.length then R.testBit q = true else hs X p q := by
  unfold hs gr
  rw [List.getD_eq_getElem?_getD, List.getD_eq_getElem?_getD, List.getElem?_set]
  by_cases e : j = p
  · subst e
    by_cases hj : j < X.length
    · simp [hj]
    · simp [hj]
  · rw [if_neg e, if_neg (fun h => e h.1.symm)]
theorem hs_put {X : List Nat} {x y p q : Nat} (hx : x < X.length) (hy : y < X.length) : hs (putP X (x : Int) (y : Int) true) p q ↔ hs X p q ∨ (p = x ∧ q = y) := by
  rw [putP_nat hx hy (gr_of hx), hs_set]
  by_cases e : p = x
  · subst e
    rw [if_pos ⟨rfl, hx⟩, testBit_setB]
    by_cases e2 : q = y
    · subst e2; simp
    · rw [if_neg e2]
      constructor
      · exact fun h => Or.inl h
      · rintro (h | ⟨_, h⟩)
        · exact h
        · exact absurd h e2
  · rw [if_neg (fun h => e h.1)]
    constructor
    · exact fun h => Or.inl h
    · rintro (h | ⟨h, _⟩)
      · exact h
      · exact absurd h e
theorem putP_len (X : List Nat) (x y : Int) (v : Bool) : (putP X x y v).length = X.length := by
  unfold putP; split <;> simp
theorem invIn_len (p : Nat) : ∀ (l : List Nat) (X : List Nat), (invIn X p l).length = X.length
  | [], _ => rfl
  | q :: l, X => by
    show (invIn (putP X q p true) p l).length = _
    rw [invIn_len p l, putP_len]
theorem hs_invIn {p : Nat} : ∀ (l : List Nat) (X : List Nat), p < X.length → (∀ q ∈ l, q < X.length) → ∀ a b, hs (invIn X p l) a b ↔ hs X a b ∨ (b = p ∧ a ∈ l)
  | [], X, _, _, a, b => by simp [invIn]
  | q :: l, X, hp, hq, a, b => by
    show hs (invIn (putP X q p true) p l) a b ↔ _
    rw [hs_invIn l _ (by rw [putP_len]; exact hp) (fun r hr => by rw [putP_len]; exact hq r (List.mem_cons_of_mem _ hr)), hs_put (hq q (by simp)) hp]
    constructor
    · rintro ((h | ⟨rfl, rfl⟩) | ⟨rfl, h⟩)
      · exact Or.inl h
      · exact Or.inr ⟨rfl, by simp⟩
      · exact Or.inr ⟨rfl, List.mem_cons_of_mem _ h⟩
    · rintro (h | ⟨rfl, h⟩)
      · exact Or.inl (Or.inl h)
      · rcases List.mem_cons.1 h with rfl | h
        · exact Or.inl (Or.inr ⟨rfl, rfl⟩)
        · exact Or.inr ⟨rfl, h⟩
theorem invK_len (L : List Nat) (k : Nat) : (invK L k).length = L.length := by
  induction k with
  | zero => simp [invK]
  | succ k ih => rw [invK_succ, invIn_len, ih]
theorem hs_invK (hn : n ≤ 256) (ha : WF n A) (k : Nat) (hk : k ≤ n) (a b : Nat) : hs (invK A k) a b ↔ hs A b a ∧ b < k := by
  induction k generalizing a b with
  | zero =>
    constructor
    · intro h; exact absurd h (by simpa [invK] using hs_zero _ a b)
    · intro h; omega
  | succ k ih =>
    rw [invK_succ, hs_invIn _ _ (by rw [invK_len, ha.len]; omega) (fun q hq => by rw [invK_len, ha.len]; exact ha.low _ _ (mem_bitsOf.1 hq).2), ih (by omega)]
    constructor
    · rintro (⟨h1, h2⟩ | ⟨rfl, h⟩)
      · exact ⟨h1, by omega⟩
      · exact ⟨(mem_bitsOf.1 h).2, by omega⟩
    · rintro ⟨h1, h2⟩
      by_cases e : b = k
      · subst e
        exact Or.inr ⟨rfl, mem_bitsOf.2 ⟨by have := ha.low _ _ h1; omega, h1⟩⟩
      · exact Or.inl ⟨h1, by omega⟩
theorem hs_inv (hn : n ≤ 256) (ha : WF n A) (a b : Nat) : hs (invL A) a b ↔ hs A b a := by
  unfold invL
  rw [ha.len, hs_invK hn ha n (Nat.le_refl _)]
  constructor
  · exact fun h => h.1
  · exact fun h => ⟨h, by have := hs_left h; rw [ha.len] at this; exact this⟩
theorem wf_inv (hn : n ≤ 256) (ha : WF n A) : WF n (invL A) := by
  refine ⟨by unfold invL; rw [invK_len, ha.len], fun p q h => ?_⟩
  have := hs_left ((hs_inv hn ha p q).1 h)
  rw [ha.len] at this
  exact this

/-! Plus: Warshall's loops make the transitive closure. -/
theorem hs_via (k j : Nat) (p q : Nat) : hs (plusVia A k j) p q ↔ hs A p q ∨ (p < j ∧ hs A p k ∧ hs A k q) := by
  induction j generalizing p q with
  | zero => simp [plusVia]
  | succ j ih =>
    rw [plusVia_succ]
    have hrow : ∀ q, hs (plusVia A k j) j q ↔ hs A j q := fun q => by
      rw [ih]
      constructor
      · rintro (h | h)
        · exact h
        · omega
      · exact Or.inl
    have hk : ∀ q, hs (plusVia A k j) k q ↔ hs A k q := fun q => by
      rw [ih]
      constructor
      · rintro (h | h)
        · exact h
        · exact h.2.2
      · exact Or.inl
    unfold plusRow
    by_cases hb : (gr (plusVia A k j) j).testBit k = true
    · rw [if_pos hb, hs_set]
      have hjk : hs A j k := (hrow k).1 hb
      by_cases e : p = j
      · subst e
        rw [if_pos ⟨rfl, hs_left (show hs (plusVia A k p) p k from hb)⟩, Nat.testBit_or, Bool.or_eq_true]
        constructor
        · rintro (h | h)
          · exact Or.inl ((hrow q).1 h)
          · exact Or.inr ⟨by omega, hjk, (hk q).1 h⟩
        · rintro (h | ⟨_, _, h⟩)
          · exact Or.inl ((hrow q).2 h)
          · exact Or.inr ((hk q).2 h)
      · rw [if_neg (fun h => e h.1), ih]
        constructor
        · rintro (h | ⟨h1, h2⟩)
          · exact Or.inl h
          · exact Or.inr ⟨by omega, h2⟩
        · rintro (h | ⟨h1, h2⟩)
          · exact Or.inl h
          · exact Or.inr ⟨by omega, h2⟩
    · rw [if_neg hb, ih]
      constructor
      · rintro (h | ⟨h1, h2⟩)
        · exact Or.inl h
        · exact Or.inr ⟨by omega, h2⟩
      · rintro (h | ⟨h1, h2⟩)
        · exact Or.inl h
        · by_cases e : p = j
          · subst e
            exact absurd ((hrow k).2 h2.1) hb
          · exact Or.inr ⟨by omega, h2⟩
theorem hs_viaN (ha : A.length = n) (k : Nat) (p q : Nat) : hs (plusVia A k n) p q ↔ hs A p q ∨ (hs A p k ∧ hs A k q) := by
  rw [hs_via]
  constructor
  · rintro (h | h)
    · exact Or.inl h
    · exact Or.inr h.2
  · rintro (h | h)
    · exact Or.inl h
    · exact Or.inr ⟨by have := hs_left h.1; omega, h⟩
theorem plusN_step (ha : A.length = n) (k p q : Nat) : hs (plusN A (k + 1)) p q ↔ hs (plusN A k) p q ∨ (hs (plusN A k) p k ∧ hs (plusN A k) k q) := by
  rw [plusN_succ, ha]
  exact hs_viaN (by rw [plusN_length]; exact ha) k p q
theorem plusN_sub (ha : A.length = n) (k : Nat) {p q : Nat} (h : hs A p q) : hs (plusN A k) p q := by
  induction k with
  | zero => exact h
  | succ k ih => exact (plusN_step ha k p q).2 (Or.inl ih)
theorem plusN_sound (ha : A.length = n) (k : Nat) {p q : Nat} (h : hs (plusN A k) p q) : TransGen (hs A) p q := by
  induction k generalizing p q with
  | zero => exact TransGen.single h
  | succ k ih =>
    rcases (plusN_step ha k p q).1 h with h | ⟨h1, h2⟩
    · exact ih h
    · exact TransGen.trans (ih h1) (ih h2)
theorem plusN_via (ha : A.length = n) (k : Nat) {p v q : Nat} (hv : v < k) (h1 : hs (plusN A k) p v) (h2 : hs (plusN A k) v q) : hs (plusN A k) p q := by
  induction k generalizing p v q with
  | zero => omega
  | succ k ih =>
    rw [plusN_step ha] at h1 h2 ⊢
    by_cases e : v = k
    · subst e
      have a1 : hs (plusN A v) p v := by
        rcases h1 with h | h
        · exact h
        · exact h.1
      have a2 : hs (plusN A v) v q := by
        rcases h2 with h | h
        · exact h
        · exact h.2
      exact Or.inr ⟨a1, a2⟩
    · have hv : v < k := by omega
      rcases h1 with h1 | ⟨h1, h1'⟩ <;> rcases h2 with h2 | ⟨h2, h2'⟩
      · exact Or.inl (ih hv h1 h2)
      · exact Or.inr ⟨ih hv h1 h2, h2'⟩
      · exact Or.inr ⟨h1, ih hv h1' h2⟩
      · exact Or.inr ⟨h1, h2'⟩
theorem hs_plus (ha : WF n A) (p q : Nat) : hs (plusL A) p q ↔ TransGen (hs A) p q := by
  constructor
  · exact plusN_sound ha.len _
  · intro h
    induction h with
    | single h => exact plusN_sub ha.len _ h
    | tail _ h2 ih =>
      refine plusN_via ha.len _ ?_ ih (plusN_sub ha.len _ h2)
      exact hs_left h2
theorem trans_low (ha : WF n A) {p q : Nat} (h : TransGen (hs A) p q) : q < n := by
  cases h with
  | single h => exact ha.low _ _ h
  | tail _ h => exact ha.low _ _ h
theorem wf_plus (ha : WF n A) : WF n (plusL A) := by
  refine ⟨by unfold plusL; rw [plusN_length, ha.len], fun p q h => ?_⟩
  exact trans_low ha ((hs_plus ha p q).1 h)

theorem trans_mono {R S : Nat → Nat → Prop} (h : ∀ p q, R p q → S p q) {p q : Nat} (k : TransGen R p q) : TransGen S p q := by
  induction k with
  | single k => exact TransGen.single (h _ _ k)
  | tail _ k ih => exact TransGen.tail ih (h _ _ k)
theorem trans_swap {R S : Nat → Nat → Prop} (h : ∀ p q, R p q → S q p) {p q : Nat} (k : TransGen R p q) : TransGen S q p := by
  induction k with
  | single k => exact TransGen.single (h _ _ k)
  | tail _ k ih => exact TransGen.trans (TransGen.single (h _ _ k)) ih
theorem trans_head {R : Nat → Nat → Prop} {p q : Nat} (k : TransGen R p q) : R p q ∨ ∃ m, R p m ∧ TransGen R m q := by
  induction k with
  | single k => exact Or.inl k
  | tail _ k ih =>
    rcases ih with h | ⟨m, h1, h2⟩
    · exact Or.inr ⟨_, h, TransGen.single k⟩
    · exact Or.inr ⟨m, h1, TransGen.tail h2 k⟩

/-! The laws -/
theorem law_assoc (hn : n ≤ 256) (ha : WF n A) (hb : WF n B) (hc : WF n C) : compL (compL A B) C = compL A (compL B C) := by
  refine WF.ext (wf_comp hn (wf_comp hn ha hb) hc) (wf_comp hn ha (wf_comp hn hb hc)) fun p q => ?_
  rw [hs_comp hn (wf_comp hn ha hb) hc, hs_comp hn ha (wf_comp hn hb hc)]
  constructor
  · rintro ⟨m, h1, h2⟩
    obtain ⟨k, h3, h4⟩ := (hs_comp hn ha hb _ _).1 h1
    exact ⟨k, h3, (hs_comp hn hb hc _ _).2 ⟨m, h4, h2⟩⟩
  · rintro ⟨m, h1, h2⟩
    obtain ⟨k, h3, h4⟩ := (hs_comp hn hb hc _ _).1 h2
    exact ⟨k, (hs_comp hn ha hb _ _).2 ⟨m, h1, h3⟩, h4⟩
theorem law_inv (hn : n ≤ 256) (ha : WF n A) (hb : WF n B) : invL (compL A B) = compL (invL B) (invL A) := by
  refine WF.ext (wf_inv hn (wf_comp hn ha hb)) (wf_comp hn (wf_inv hn hb) (wf_inv hn ha)) fun p q => ?_
  rw [hs_inv hn (wf_comp hn ha hb), hs_comp hn ha hb, hs_comp hn (wf_inv hn hb) (wf_inv hn ha)]
  constructor
  · rintro ⟨m, h1, h2⟩
    exact ⟨m, (hs_inv hn hb _ _).2 h2, (hs_inv hn ha _ _).2 h1⟩
  · rintro ⟨m, h1, h2⟩
    exact ⟨m, (hs_inv hn ha _ _).1 h2, (hs_inv hn hb _ _).1 h1⟩
theorem law_inv2 (hn : n ≤ 256) (ha : WF n A) : invL (invL A) = A := by
  refine WF.ext (wf_inv hn (wf_inv hn ha)) ha fun p q => ?_
  rw [hs_inv hn (wf_inv hn ha), hs_inv hn ha]
theorem law_dist (hn : n ≤ 256) (ha : WF n A) (hb : WF n B) (hc : WF n C) : compL A (unionL [B, C]) = unionL [compL A B, compL A C] := by
  refine WF.ext (wf_comp hn ha (wf_union hb hc)) (wf_union (wf_comp hn ha hb) (wf_comp hn ha hc)) fun p q => ?_
  rw [hs_comp hn ha (wf_union hb hc), hs_union (wf_comp hn ha hb) (wf_comp hn ha hc), hs_comp hn ha hb, hs_comp hn ha hc]
  constructor
  · rintro ⟨m, h1, h2⟩
    rcases (hs_union hb hc _ _).1 h2 with h | h
    · exact Or.inl ⟨m, h1, h⟩
    · exact Or.inr ⟨m, h1, h⟩
  · rintro (⟨m, h1, h2⟩ | ⟨m, h1, h2⟩)
    · exact ⟨m, h1, (hs_union hb hc _ _).2 (Or.inl h2)⟩
    · exact ⟨m, h1, (hs_union hb hc _ _).2 (Or.inr h2)⟩
theorem law_parts (ha : WF n A) (hb : WF n B) : unionL [minusL A B, interL A B] = A := by
  refine WF.ext (wf_union (wf_minus ha hb) (wf_inter ha hb)) ha fun p q => ?_
  rw [hs_union (wf_minus ha hb) (wf_inter ha hb), hs_minus ha hb, hs_inter ha hb]
  constructor
  · rintro (h | h)
    · exact h.1
    · exact h.1
  · intro h
    by_cases k : hs B p q
    · exact Or.inr ⟨h, k⟩
    · exact Or.inl ⟨h, k⟩
theorem law_plus2 (ha : WF n A) : plusL (plusL A) = plusL A := by
  refine WF.ext (wf_plus (wf_plus ha)) (wf_plus ha) fun p q => ?_
  rw [hs_plus (wf_plus ha)]
  constructor
  · intro h
    rw [hs_plus ha]
    induction h with
    | single h => exact (hs_plus ha _ _).1 h
    | tail _ h ih => exact TransGen.trans ih ((hs_plus ha _ _).1 h)
  · exact fun h => TransGen.single h
theorem law_step (hn : n ≤ 256) (ha : WF n A) : plusL A = unionL [A, compL A (plusL A)] := by
  refine WF.ext (wf_plus ha) (wf_union ha (wf_comp hn ha (wf_plus ha))) fun p q => ?_
  rw [hs_union ha (wf_comp hn ha (wf_plus ha)), hs_comp hn ha (wf_plus ha), hs_plus ha]
  constructor
  · intro h
    rcases trans_head h with h | ⟨m, h1, h2⟩
    · exact Or.inl h
    · exact Or.inr ⟨m, h1, (hs_plus ha _ _).2 h2⟩
  · rintro (h | ⟨m, h1, h2⟩)
    · exact TransGen.single h
    · exact TransGen.trans (TransGen.single h1) ((hs_plus ha _ _).1 h2)
theorem law_plusInv (hn : n ≤ 256) (ha : WF n A) : plusL (invL A) = invL (plusL A) := by
  refine WF.ext (wf_plus (wf_inv hn ha)) (wf_inv hn (wf_plus ha)) fun p q => ?_
  rw [hs_plus (wf_inv hn ha), hs_inv hn (wf_plus ha), hs_plus ha]
  constructor
  · exact trans_swap fun p q h => (hs_inv hn ha p q).1 h
  · exact trans_swap fun p q h => (hs_inv hn ha q p).2 h
theorem law_interComm (ha : WF n A) (hb : WF n B) : interL A B = interL B A := by
  refine WF.ext (wf_inter ha hb) (wf_inter hb ha) fun p q => ?_
  rw [hs_inter ha hb, hs_inter hb ha, And.comm]
theorem law_unionComm (ha : WF n A) (hb : WF n B) : unionL [A, B] = unionL [B, A] := by
  refine WF.ext (wf_union ha hb) (wf_union hb ha) fun p q => ?_
  rw [hs_union ha hb, hs_union hb ha, Or.comm]

theorem foldl_zero (l : List Nat) (h : ∀ x ∈ l, x = 0) : l.foldl (· + ·) 0 = 0 := by
  induction l with
  | nil => rfl
  | cons x l ih =>
    rw [List.foldl_cons, h x (by simp)]
    exact ih fun y hy => h y (List.mem_cons_of_mem _ hy)
theorem within_of (ha : WF n A) (hb : WF n B) (h : ∀ p q, hs A p q → hs B p q) : (sizeL (minusL A B) == 0) = true := by
  rw [beq_iff_eq]
  unfold sizeL sizeK
  apply foldl_zero
  intro x hx
  obtain ⟨p, _, rfl⟩ := List.mem_map.1 hx
  rw [List.length_eq_zero_iff, List.eq_nil_iff_forall_not_mem]
  intro q hq
  have h1 := (hs_minus ha hb p q).1 (mem_bitsOf.1 hq).2
  exact h1.2 (h p q h1.1)
theorem law_trans (hn : n ≤ 256) (ha : WF n A) : (sizeL (minusL (compL (plusL A) (plusL A)) (plusL A)) == 0) = true := by
  refine within_of (wf_comp hn (wf_plus ha) (wf_plus ha)) (wf_plus ha) fun p q h => ?_
  obtain ⟨m, h1, h2⟩ := (hs_comp hn (wf_plus ha) (wf_plus ha) p q).1 h
  exact (hs_plus ha p q).2 (TransGen.trans ((hs_plus ha _ _).1 h1) ((hs_plus ha _ _).1 h2))
theorem law_in (ha : WF n A) : (sizeL (minusL A (plusL A)) == 0) = true :=
  within_of ha (wf_plus ha) fun p q h => (hs_plus ha p q).2 (TransGen.single h)

theorem loops_bit (L : List Nat) (k p : Nat) : (loopsK L k).testBit p = true ↔ p < k ∧ hs L p p := by
  induction k with
  | zero => simp [loopsK]
  | succ k ih =>
    rw [loopsK_succ, testBit_setB]
    by_cases e : p = k
    · subst e
      rw [if_pos rfl]
      unfold hs
      constructor
      · exact fun h => ⟨by omega, h⟩
      · exact fun h => h.2
    · rw [if_neg e, ih]
      constructor
      · exact fun h => ⟨by omega, h.2⟩
      · exact fun h => ⟨by omega, h.2⟩
theorem loops_zero (L : List Nat) : loopsL L = 0 ↔ ∀ p, ¬ hs L p p := by
  constructor
  · intro h p hp
    have := (loops_bit L L.length p).2 ⟨hs_left hp, hp⟩
    unfold loopsL at h
    rw [h] at this
    simp at this
  · intro h
    apply Nat.eq_of_testBit_eq
    intro p
    rw [Nat.zero_testBit, Bool.eq_false_iff]
    intro hb
    exact h p ((loops_bit L L.length p).1 hb).2
theorem law_acyclic (ha : WF n A) (hb : WF n B) (h : loopsL (plusL A) ≠ 0) : loopsL (plusL (unionL [A, B])) ≠ 0 := by
  intro k
  apply h
  rw [loops_zero] at k ⊢
  intro p hp
  refine k p ((hs_plus (wf_union ha hb) p p).2 ?_)
  exact trans_mono (fun a b hab => (hs_union ha hb a b).2 (Or.inl hab)) ((hs_plus ha p p).1 hp)
end
end Go.Proofs.YtogifpilfckenaaDoor
/- What a told cycle is, and why the points of a relation without any can be numbered. -/
namespace Go.Proofs.YtogifpilfckenaaDoor
open Go.RowKit Go.Shelf Sx Relation

theorem bit_of_ne {x : Nat} (h : x ≠ 0) : ∃ q, x.testBit q = true := by
  apply Classical.byContradiction
  intro hn
  apply h
  apply Nat.eq_of_testBit_eq
  intro q
  rw [Nat.zero_testBit, Bool.eq_false_iff]
  exact fun hq => hn ⟨q, hq⟩
theorem and_ne {x y : Nat} (h : x &&& y ≠ 0) : ∃ q, x.testBit q = true ∧ y.testBit q = true := by
  obtain ⟨q, hq⟩ := bit_of_ne h
  rw [Nat.testBit_and, Bool.and_eq_true] at hq
  exact ⟨q, hq⟩
theorem and_zero {x y q : Nat} (h : x &&& y = 0) (h1 : x.testBit q = true) (h2 : y.testBit q = true) : False := by
  have := Nat.testBit_and x y q
  rw [h, h1, h2, Nat.zero_testBit] at this
  cases this
theorem or_bit {x y q : Nat} : (x ||| y).testBit q = true ↔ x.testBit q = true ∨ y.testBit q = true := by
  rw [Nat.testBit_or, Bool.or_eq_true]
theorem gr_cons_succ (x : Nat) (l : List Nat) (i : Nat) : gr (x :: l) (i + 1) = gr l i := rfl
theorem gr_cons_zero (x : Nat) (l : List Nat) : gr (x :: l) 0 = x := rfl

/-- A way along pairs. -/
def Path (L : List Nat) : Nat → List Nat → Nat → Prop
  | a, [], b => hs L a b
  | a, x :: l, b => hs L a x ∧ Path L x l b
/-- A way of k pairs ends here. -/
def PathTo (L : List Nat) : Nat → Nat → Prop
  | 0, _ => True
  | k + 1, p => ∃ q, hs L q p ∧ PathTo L k q

section
variable {n : Nat} {L : List Nat}
theorem pred_bits (hn : n ≤ 256) (ha : WF n L) (near q : Nat) : (joinRows (invL L) (bitsOf near)).testBit q = true ↔ ∃ r, near.testBit r = true ∧ hs L q r := by
  unfold joinRows
  rw [join_bits]
  constructor
  · rintro (h | ⟨r, hr, h⟩)
    · simp at h
    · exact ⟨r, (mem_bitsOf.1 hr).2, (hs_inv hn ha r q).1 h⟩
  · rintro ⟨r, h1, h2⟩
    exact Or.inr ⟨r, mem_bitsOf.2 ⟨by have := ha.low _ _ h2; omega, h1⟩, (hs_inv hn ha r q).2 h2⟩

theorem lay_meets (hn : n ≤ 256) (ha : WF n L) {s : Nat} (hc : TransGen (hs L) s s) : ∀ (ly : List Nat) (seen near : Nat), LayOK L (invL L) s seen near ly → (seen ||| near).testBit s = true →
    (∀ x y, seen.testBit x = true → hs L y x → (seen ||| near).testBit y = true) → gr L s &&& seen = 0 → ∃ k, ly.length = k + 1 ∧ gr L s &&& gr ly k ≠ 0
  | [], seen, near, hl, h1, h2, h3 => by
    have e : near = 0 := hl
    subst e
    rw [Nat.or_zero] at h1
    have key : ∀ m x, TransGen (hs L) m x → seen.testBit x = true → seen.testBit m = true := by
      intro m x h
      induction h with
      | single h => intro hx; have := h2 _ _ hx h; rwa [Nat.or_zero] at this
      | tail _ h ih => intro hx; have := h2 _ _ hx h; rw [Nat.or_zero] at this; exact ih this
    rcases trans_head hc with h | ⟨m, h4, h5⟩
    · exact (and_zero h3 h h1).elim
    · exact (and_zero h3 h4 (key m s h5 h1)).elim
  | x :: rest, seen, near, hl, h1, h2, h3 => by
    obtain ⟨hne, rfl, hgo, hstop⟩ : near ≠ 0 ∧ x = near ∧ (gr L s &&& near = 0 → LayOK L (invL L) s (seen ||| near) (ldiff (joinRows (invL L) (bitsOf near)) (seen ||| near)) rest) ∧ (gr L s &&& near ≠ 0 → rest = []) := hl
    by_cases hm : gr L s &&& x = 0
    · have c1 : ∀ a b, (seen ||| x).testBit a = true → hs L b a → ((seen ||| x) ||| ldiff (joinRows (invL L) (bitsOf x)) (seen ||| x)).testBit b = true := by
        intro a b ha1 hb
        rcases or_bit.1 ha1 with h | h
        · exact or_bit.2 (Or.inl (h2 a b h hb))
        · by_cases hs2 : (seen ||| x).testBit b = true
          · exact or_bit.2 (Or.inl hs2)
          · refine or_bit.2 (Or.inr ?_)
            rw [testBit_ldiff, Bool.and_eq_true, Bool.not_eq_true']
            exact ⟨(pred_bits hn ha x b).2 ⟨a, h, hb⟩, by simpa using hs2⟩
      have c2 : gr L s &&& (seen ||| x) = 0 := by
        apply Nat.eq_of_testBit_eq
        intro q
        rw [Nat.zero_testBit, Nat.testBit_and, Bool.eq_false_iff]
        intro hq
        rw [Bool.and_eq_true, or_bit] at hq
        rcases hq.2 with h | h
        · exact and_zero h3 hq.1 h
        · exact and_zero hm hq.1 h
      obtain ⟨k, hk1, hk2⟩ := lay_meets hn ha hc rest _ _ (hgo hm) (or_bit.2 (Or.inl h1)) c1 c2
      exact ⟨k + 1, by rw [List.length_cons, hk1], hk2⟩
    · exact ⟨0, by rw [hstop hm]; rfl, hm⟩

structure LayP (L : List Nat) (seen near : Nat) (ly : List Nat) : Prop where
  off : ∀ i, i < ly.length → ∀ q, (gr ly i).testBit q = true → seen.testBit q = true → False
  first : 0 < ly.length → gr ly 0 = near
  down : ∀ i, i + 1 < ly.length → ∀ q, (gr ly (i + 1)).testBit q = true → ∃ r, hs L q r ∧ (gr ly i).testBit r = true
  apart : ∀ i j, i < j → j < ly.length → ∀ q, (gr ly i).testBit q = true → (gr ly j).testBit q = true → False
theorem lay_props (hn : n ≤ 256) (ha : WF n L) (s : Nat) : ∀ (ly : List Nat) (seen near : Nat), LayOK L (invL L) s seen near ly → (∀ q, near.testBit q = true → seen.testBit q = true → False) → LayP L seen near ly
  | [], seen, near, _, _ => ⟨fun i h => by simp at h, fun h => by simp at h, fun i h => by simp at h, fun i j _ h => by simp at h⟩
  | x :: rest, seen, near, hl, hd => by
    obtain ⟨hne, rfl, hgo, hstop⟩ : near ≠ 0 ∧ x = near ∧ (gr L s &&& near = 0 → LayOK L (invL L) s (seen ||| near) (ldiff (joinRows (invL L) (bitsOf near)) (seen ||| near)) rest) ∧ (gr L s &&& near ≠ 0 → rest = []) := hl
    by_cases hm : gr L s &&& x = 0
    · have ih := lay_props hn ha s rest _ _ (hgo hm) (fun q h1 h2 => by
        rw [testBit_ldiff, h2] at h1
        simp at h1)
      refine ⟨?_, fun _ => rfl, ?_, ?_⟩
      · intro i hi q h1 h2
        cases i with
        | zero => exact hd q h1 h2
        | succ i => exact ih.off i (by simpa using hi) q h1 (or_bit.2 (Or.inl h2))
      · intro i hi q h1
        cases i with
        | zero =>
          have hr : 0 < rest.length := by simpa using hi
          rw [gr_cons_succ, ih.first hr, testBit_ldiff, Bool.and_eq_true] at h1
          obtain ⟨r, h2, h3⟩ := (pred_bits hn ha x q).1 h1.1
          exact ⟨r, h3, h2⟩
        | succ i => exact ih.down i (by simpa using hi) q h1
      · intro i j hij hj q h1 h2
        cases j with
        | zero => omega
        | succ j =>
          cases i with
          | zero => exact ih.off j (by simpa using hj) q h2 (or_bit.2 (Or.inr h1))
          | succ i => exact ih.apart i j (by omega) (by simpa using hj) q h1 h2
    · have e := hstop hm
      subst e
      refine ⟨?_, fun _ => rfl, fun i h => by simp at h, fun i j h1 h2 => by simp at h2; omega⟩
      intro i hi q h1 h2
      obtain rfl : i = 0 := by simp at hi; omega
      exact hd q h1 h2

theorem cyc_path (hn : n ≤ 256) (ha : WF n L) {s seen near : Nat} {ly : List Nat} (hp : LayP L seen near ly) (h0 : ∀ q, (gr ly 0).testBit q = true → q = s) :
    ∀ i, i < ly.length → ∀ last, (∃ q, hs L last q ∧ (gr ly i).testBit q = true) →
      Path L last (cycF L last (remL ly i)) s ∧ (cycF L last (remL ly i)).Pairwise (· ≠ ·) ∧ ∀ x ∈ cycF L last (remL ly i), ∃ m, 1 ≤ m ∧ m ≤ i ∧ (gr ly m).testBit x = true := by
  intro i
  induction i with
  | zero =>
    rintro _ last ⟨q, h1, h2⟩
    rw [remL_zero]
    obtain rfl := h0 q h2
    exact ⟨h1, List.Pairwise.nil, fun x hx => by cases hx⟩
  | succ i ih =>
    rintro hi last ⟨q0, h1, h2⟩
    rw [remL_succ hi]
    have hmem : q0 ∈ bitsOf (gr L last &&& gr ly (i + 1)) := mem_bitsOf.2 ⟨by have := ha.low _ _ h1; omega, by rw [Nat.testBit_and, Bool.and_eq_true]; exact ⟨h1, h2⟩⟩
    cases hb : bitsOf (gr L last &&& gr ly (i + 1)) with
    | nil => rw [hb] at hmem; cases hmem
    | cons q tl =>
      have e : cycF L last (gr ly (i + 1) :: remL ly i) = q :: cycF L q (remL ly i) := by
        show (match bitsOf (gr L last &&& gr ly (i + 1)) with
          | [] => cycF L last (remL ly i)
          | q :: _ => q :: cycF L q (remL ly i)) = _
        rw [hb]
      rw [e]
      have hq : q ∈ bitsOf (gr L last &&& gr ly (i + 1)) := by rw [hb]; simp
      have hq2 := (mem_bitsOf.1 hq).2
      rw [Nat.testBit_and, Bool.and_eq_true] at hq2
      obtain ⟨p1, p2, p3⟩ := ih (by omega) q (hp.down i hi q hq2.2)
      refine ⟨⟨hq2.1, p1⟩, List.Pairwise.cons (fun x hx e => ?_) p2, ?_⟩
      · subst e
        obtain ⟨m, _, h4, h5⟩ := p3 _ hx
        exact hp.apart m (i + 1) (by omega) hi _ h5 hq2.2
      · intro x hx
        rcases List.mem_cons.1 hx with rfl | hx
        · exact ⟨i + 1, by omega, by omega, hq2.2⟩
        · obtain ⟨m, h3, h4, h5⟩ := p3 x hx
          exact ⟨m, h3, by omega, h5⟩

theorem path_trans : ∀ (l : List Nat) (a b : Nat), Path L a l b → TransGen (hs L) a b ∧ ∀ x ∈ l, TransGen (hs L) a x ∧ TransGen (hs L) x b
  | [], a, b, h => ⟨TransGen.single h, fun x hx => by cases hx⟩
  | y :: l, a, b, h => by
    obtain ⟨h1, h2⟩ : hs L a y ∧ Path L y l b := h
    obtain ⟨h3, h4⟩ := path_trans l y b h2
    refine ⟨TransGen.trans (TransGen.single h1) h3, fun x hx => ?_⟩
    rcases List.mem_cons.1 hx with rfl | hx
    · exact ⟨TransGen.single h1, h3⟩
    · exact ⟨TransGen.trans (TransGen.single h1) (h4 x hx).1, (h4 x hx).2⟩

theorem loops_mem (hn : n ≤ 256) (ha : WF n L) (p : Nat) : p ∈ bitsOf (loopsL (plusL L)) ↔ TransGen (hs L) p p := by
  rw [mem_bitsOf]
  unfold loopsL
  rw [loops_bit, hs_plus ha, plusL_length]
  constructor
  · exact fun h => h.2.2
  · intro h
    have := trans_low ha h
    exact ⟨by omega, by rw [ha.len]; exact this, h⟩

/-- What Cycle tells, in words of the relation. -/
theorem cyc_facts (hn : n ≤ 256) (ha : WF n L) {out : List Nat} (h : CycOK L out) :
    (out = [] ∧ ∀ p, ¬ TransGen (hs L) p p) ∨ ∃ s l, out = s :: l ∧ Path L s l s ∧ (s :: l).Pairwise (· ≠ ·) ∧ (∀ x ∈ s :: l, s ≤ x ∧ x < n) ∧ (∀ q, q < s → ¬ hs (plusL L) q q) ∧ hs (plusL L) s s := by
  rcases h with ⟨h1, h2⟩ | ⟨s, tl, ly, h1, h2, h3⟩
  · left
    refine ⟨h2, fun p hp => ?_⟩
    have := (loops_mem hn ha p).2 hp
    rw [h1] at this
    cases this
  · right
    have hmem : s ∈ bitsOf (loopsL (plusL L)) := by rw [h1]; simp
    have hc := (loops_mem hn ha s).1 hmem
    have hleast : ∀ q, TransGen (hs L) q q → s ≤ q := by
      intro q hq
      have h5 := (loops_mem hn ha q).2 hq
      have h6 := bitsOf_sorted (loopsL (plusL L))
      rw [h1] at h5 h6
      rcases List.mem_cons.1 h5 with rfl | h5
      · exact Nat.le_refl _
      · exact Nat.le_of_lt ((List.pairwise_cons.1 h6).1 q h5)
    have hbit : ∀ q, (setB 0 s true).testBit q = true ↔ q = s := by
      intro q
      rw [testBit_setB]
      by_cases e : q = s
      · simp [e]
      · simp [e]
    obtain ⟨k, hk1, hk2⟩ := lay_meets hn ha hc ly 0 _ h2 (or_bit.2 (Or.inr ((hbit s).2 rfl))) (fun x y hx => by simp at hx) (by simp)
    have hp := lay_props hn ha s ly 0 _ h2 (fun q _ h => by simp at h)
    have h0 : ∀ q, (gr ly 0).testBit q = true → q = s := by
      intro q hq
      rw [hp.first (by omega)] at hq
      exact (hbit q).1 hq
    obtain ⟨q0, hq1, hq2⟩ := and_ne hk2
    have hk : ly.length - 1 = k := by omega
    rw [hk] at h3
    obtain ⟨p1, p2, p3⟩ := cyc_path hn ha hp h0 k (by omega) s ⟨q0, hq1, hq2⟩
    have hpt := path_trans _ s s p1
    refine ⟨s, _, h3, p1, List.Pairwise.cons (fun x hx e => ?_) p2, ?_, ?_, (hs_plus ha s s).2 hc⟩
    · subst e
      obtain ⟨m, h4, h5, h6⟩ := p3 _ hx
      refine hp.apart 0 m (by omega) (by omega) s ?_ h6
      rw [hp.first (by omega)]
      exact (hbit s).2 rfl
    · intro x hx
      rcases List.mem_cons.1 hx with rfl | hx
      · exact ⟨Nat.le_refl _, trans_low ha hc⟩
      · have hx2 := hpt.2 x hx
        have hxx := TransGen.trans hx2.2 hx2.1
        exact ⟨hleast x hxx, trans_low ha hxx⟩
    · intro q hq hqq
      have := hleast q ((hs_plus ha q q).1 hqq)
      omega

theorem path_at : ∀ (l : List Nat) (a b : Nat), Path L a l b → ∀ i, i < (a :: l).length → hs L (gr (a :: l) i) (if i + 1 < (a :: l).length then gr (a :: l) (i + 1) else b)
  | [], a, b, h, i, hi => by
    obtain rfl : i = 0 := by simp at hi; omega
    exact h
  | y :: l, a, b, h, i, hi => by
    obtain ⟨h1, h2⟩ : hs L a y ∧ Path L y l b := h
    cases i with
    | zero =>
      rw [if_pos (by simp)]
      exact h1
    | succ i =>
      have := path_at l y b h2 i (by simpa using hi)
      simpa [gr_cons_succ] using this

/-! The numbering -/
theorem nodup_le : ∀ (n : Nat) (l : List Nat), l.Pairwise (· ≠ ·) → (∀ x ∈ l, x < n) → l.length ≤ n
  | 0, l, _, h => by
    cases l with
    | nil => simp
    | cons x l => have := h x (by simp); omega
  | n + 1, l, h1, h2 => by
    have h3 := nodup_le n (l.filter (fun y => !decide (y = n))) (List.Pairwise.filter _ h1) (fun x hx => by
      rw [List.mem_filter] at hx
      have := h2 x hx.1
      have : x ≠ n := by simpa using hx.2
      omega)
    have h4 : l.length ≤ (l.filter (fun y => !decide (y = n))).length + 1 := by
      clear h2 h3
      induction l with
      | nil => simp
      | cons x l ih =>
        have hx := List.pairwise_cons.1 h1
        by_cases e : x = n
        · subst e
          have : l.filter (fun y => !decide (y = x)) = l := by
            rw [List.filter_eq_self]
            intro y hy
            have := hx.1 y hy
            simpa using fun e => this e.symm
          rw [List.filter_cons_of_neg (by simp), this, List.length_cons]
          omega
        · have := ih hx.2
          rw [List.filter_cons_of_pos (by simpa using e), List.length_cons, List.length_cons]
          omega
    omega
theorem pathTo_list (ha : WF n L) (hac : ∀ p, ¬ TransGen (hs L) p p) : ∀ (k p : Nat), p < n → PathTo L k p → ∃ l : List Nat, l.length = k + 1 ∧ l.Pairwise (· ≠ ·) ∧ (∀ x ∈ l, x < n) ∧ ∀ x ∈ l, x = p ∨ TransGen (hs L) x p
  | 0, p, hp, _ => ⟨[p], rfl, by simp, by simpa using hp, by simp⟩
  | k + 1, p, hp, h => by
    obtain ⟨q, h1, h2⟩ : ∃ q, hs L q p ∧ PathTo L k q := h
    obtain ⟨l, h3, h4, h5, h6⟩ := pathTo_list ha hac k q (by have := hs_left h1; rw [ha.len] at this; exact this) h2
    have hto : ∀ x ∈ l, TransGen (hs L) x p := by
      intro x hx
      rcases h6 x hx with rfl | h
      · exact TransGen.single h1
      · exact TransGen.tail h h1
    refine ⟨p :: l, by simp [h3], List.Pairwise.cons (fun x hx e => ?_) h4, ?_, ?_⟩
    · subst e
      exact hac _ (hto _ hx)
    · intro x hx
      rcases List.mem_cons.1 hx with rfl | hx
      · exact hp
      · exact h5 x hx
    · intro x hx
      rcases List.mem_cons.1 hx with rfl | hx
      · exact Or.inl rfl
      · exact Or.inr (hto x hx)
theorem pathTo_short (ha : WF n L) (hac : ∀ p, ¬ TransGen (hs L) p p) {k p : Nat} (hp : p < n) (h : PathTo L k p) : k < n := by
  obtain ⟨l, h1, h2, h3, _⟩ := pathTo_list ha hac k p hp h
  have := nodup_le n l h2 h3
  omega

/-- In the middle of round r, ahead of point p. -/
structure Mid (L : List Nat) (n r p : Nat) (num : List Nat) : Prop where
  len : num.length = n
  le : ∀ x, gr num x ≤ r
  lt : ∀ x, p ≤ x → gr num x < r
  up : ∀ q x, hs L q x → gr num x ≠ 0 → gr num q ≠ 0 ∧ gr num q < gr num x
  old : ∀ x, x < n → gr num x = 0 ∨ gr num x = r → PathTo L (r - 1) x
  new : ∀ x, x < p → gr num x = 0 → PathTo L r x
theorem gr_zeros (n x : Nat) : gr (List.replicate n 0) x = 0 := by
  by_cases h : x < n
  · exact gr_eq (by simp [h])
  · exact gr_not (by simpa using h)
theorem mid_start (L : List Nat) (n : Nat) : Mid L n 1 0 (List.replicate n 0) :=
  ⟨by simp, fun x => by rw [gr_zeros]; omega, fun x _ => by rw [gr_zeros]; omega, fun q x _ h => absurd (gr_zeros n x) h, fun x _ _ => trivial, fun x hx => by omega⟩
theorem mid_next {r : Nat} {num : List Nat} (h : Mid L n r n num) : Mid L n (r + 1) 0 num := by
  refine ⟨h.len, fun x => by have := h.le x; omega, fun x _ => by have := h.le x; omega, h.up, ?_, fun x hx => by omega⟩
  rintro x hx (h0 | h0)
  · exact h.new x hx h0
  · have := h.le x; omega
theorem gr_set {num : List Nat} {p v x : Nat} (hp : p < num.length) : gr (num.set p v) x = if x = p then v else gr num x := by
  unfold gr
  rw [List.getD_eq_getElem?_getD, List.getD_eq_getElem?_getD, List.getElem?_set]
  by_cases e : p = x
  · subst e; simp [hp]
  · rw [if_neg e, if_neg (fun h => e h.symm)]
theorem mid_free {r p : Nat} {num : List Nat} (h : Mid L n r p num) (hp : p < n) (hr : 1 ≤ r) (h0 : gr num p = 0) (hf : ∀ q, hs L q p → gr num q ≠ 0 ∧ gr num q ≠ r) : Mid L n r (p + 1) (num.set p r) := by
  have hl : p < num.length := by rw [h.len]; exact hp
  have hself : ¬ hs L p p := fun hpp => (hf p hpp).1 h0
  refine ⟨by rw [List.length_set, h.len], ?_, ?_, ?_, ?_, ?_⟩
  · intro x
    rw [gr_set hl]
    split
    · exact Nat.le_refl _
    · exact h.le x
  · intro x hx
    rw [gr_set hl, if_neg (by omega)]
    exact h.lt x (by omega)
  · intro q x hqx hx
    rw [gr_set hl] at hx
    rw [gr_set hl, gr_set hl]
    by_cases ex : x = p
    · subst ex
      have hq : q ≠ x := fun e => hself (e ▸ hqx)
      rw [if_pos rfl, if_neg hq]
      have h1 := hf q hqx
      have h2 := h.le q
      exact ⟨h1.1, by omega⟩
    · rw [if_neg ex] at hx ⊢
      have h1 := h.up q x hqx hx
      have hq : q ≠ p := fun e => h1.1 (e ▸ h0)
      rw [if_neg hq]
      exact h1
  · intro x hx hor
    by_cases ex : x = p
    · subst ex
      exact h.old x hx (Or.inl h0)
    · rw [gr_set hl, if_neg ex] at hor
      exact h.old x hx hor
  · intro x hx hx0
    rw [gr_set hl] at hx0
    split at hx0
    · omega
    · exact h.new x (by omega) hx0
theorem mid_stuck {r p : Nat} {num : List Nat} (ha : WF n L) (h : Mid L n r p num) (hr : 1 ≤ r) (hs0 : gr num p ≠ 0 ∨ ∃ q, hs L q p ∧ (gr num q = 0 ∨ gr num q = r)) : Mid L n r (p + 1) num := by
  refine ⟨h.len, h.le, fun x hx => h.lt x (by omega), h.up, h.old, ?_⟩
  intro x hx hx0
  by_cases e : x = p
  · subst e
    rcases hs0 with h1 | ⟨q, h1, h2⟩
    · exact absurd hx0 h1
    · obtain ⟨r', rfl⟩ : ∃ r', r = r' + 1 := ⟨r - 1, by omega⟩
      exact ⟨q, h1, h.old q (by have := hs_left h1; rw [ha.len] at this; exact this) h2⟩
  · exact h.new x (by omega) hx0
theorem mid_end {num : List Nat} (ha : WF n L) (hac : ∀ p, ¬ TransGen (hs L) p p) (h : Mid L n (n + 1) 0 num) {q x : Nat} (hqx : hs L q x) : gr num q ≠ 0 ∧ gr num q < gr num x := by
  refine h.up q x hqx fun h0 => ?_
  have hx := ha.low _ _ hqx
  have := pathTo_short ha hac hx (h.old x hx (Or.inl h0))
  omega
end
end Go.Proofs.YtogifpilfckenaaDoor
