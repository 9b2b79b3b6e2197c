/- Relations as lists of rows: which pairs each maker's answer has, and the laws of sets of pairs. -/
import Derived.Test.YtpflelkdkpabbaaDoorCycWalk
import Derived.Test.YtpflelkdkpabbaaDoorInvWalk
import Derived.Test.YtpflelkdkpabbaaDoorCompWalk
import Derived.Test.YtpflelkdkpabbaaDoorOnesWalk
namespace Go.Proofs.YtpflelkdkpabbaaDoor
open Go.RowKit Go.Shelf Sx Relation

/-- Is (p, q) in the relation? -/
def hs (L : List Nat) (p q : Nat) : Prop := (gr L p).testBit q = true
structure WF (n : Nat) (L : List Nat) : Prop where
  len : L.length = n
  low : ∀ p q, hs L p q → q < n
theorem hs_left {L : List Nat} {p q : Nat} (h : hs L p q) : p < L.length := by
  apply Nat.lt_of_not_le
  intro hle
  unfold hs at h
  rw [gr_not (by omega)] at h
  simp at h
theorem IsRel.wf {w : World} {b c : Nat} {L : List Nat} (h : IsRel w b c L) {n : Nat} (hn : L.length = n) : WF n L := by
  refine ⟨hn, fun p q hq => ?_⟩
  apply Nat.lt_of_not_le
  intro hle
  have h1 := testBit_of_lt (h.gr_lt p) (by omega : L.length ≤ q)
  unfold hs at hq
  rw [h1] at hq
  cases hq
theorem WF.ext {n : Nat} {A B : List Nat} (ha : WF n A) (hb : WF n B) (h : ∀ p q, hs A p q ↔ hs B p q) : A = B := by
  apply List.ext_getElem?
  intro p
  by_cases hp : p < n
  · rw [gr_of (by rw [ha.len]; exact hp), gr_of (by rw [hb.len]; exact hp)]
    congr 1
    apply Nat.eq_of_testBit_eq
    intro q
    rw [Bool.eq_iff_iff]
    exact h p q
  · rw [List.getElem?_eq_none (by rw [ha.len]; omega), List.getElem?_eq_none (by rw [hb.len]; omega)]

theorem join_bits (L : List Nat) (q : Nat) : ∀ (l : List Nat) (s : Nat), (l.foldl (fun s p => s ||| gr L p) s).testBit q = true ↔ s.testBit q = true ∨ ∃ p ∈ l, hs L p q
  | [], s => by simp
  | x :: l, s => by
    rw [List.foldl_cons, join_bits L q l, Nat.testBit_or, Bool.or_eq_true]
    unfold hs
    simp [or_assoc]
theorem hs_fill {n k : Nat} {f : Nat → Nat} {p q : Nat} (hk : n ≤ k) : hs (fillK n f k) p q ↔ p < n ∧ (f p).testBit q = true := by
  by_cases hp : p < n
  · unfold hs
    rw [gr_eq (fillK_at hp), if_pos (by omega)]
    simp [hp]
  · constructor
    · intro h
      have := hs_left h
      rw [fillK_length] at this
      omega
    · exact fun h => absurd h.1 hp

section
variable {n : Nat} {A B C : List Nat}
theorem hs_comp (hn : n ≤ 256) (ha : WF n A) (hb : WF n B) (p q : Nat) : hs (compL A B) p q ↔ ∃ m, hs A p m ∧ hs B m q := by
  unfold compL
  rw [ha.len, hb.len, Nat.max_self, hs_fill (Nat.le_refl _)]
  unfold joinRows
  rw [join_bits]
  constructor
  · rintro ⟨_, h | ⟨m, hm, h⟩⟩
    · simp at h
    · exact ⟨m, (mem_bitsOf.1 hm).2, h⟩
  · rintro ⟨m, h1, h2⟩
    refine ⟨by have := hs_left h1; rw [ha.len] at this; exact this, Or.inr ⟨m, mem_bitsOf.2 ⟨?_, h1⟩, h2⟩⟩
    have := ha.low _ _ h1
    omega
theorem wf_comp (hn : n ≤ 256) (ha : WF n A) (hb : WF n B) : WF n (compL A B) := by
  refine ⟨by unfold compL; rw [fillK_length, ha.len, hb.len, Nat.max_self], fun p q h => ?_⟩
  obtain ⟨m, _, h2⟩ := (hs_comp hn ha hb p q).1 h
  exact hb.low _ _ h2
theorem hs_inter (ha : WF n A) (hb : WF n B) (p q : Nat) : hs (interL A B) p q ↔ hs A p q ∧ hs B p q := by
  unfold interL
  rw [ha.len, hb.len, Nat.max_self, hs_fill (Nat.le_refl _), Nat.testBit_and, Bool.and_eq_true]
  constructor
  · exact fun h => h.2
  · exact fun h => ⟨by have := hs_left h.1; rw [ha.len] at this; exact this, h⟩
theorem wf_inter (ha : WF n A) (hb : WF n B) : WF n (interL A B) := by
  refine ⟨by unfold interL; rw [fillK_length, ha.len, hb.len, Nat.max_self], fun p q h => ?_⟩
  exact ha.low _ _ ((hs_inter ha hb p q).1 h).1
theorem hs_minus (ha : WF n A) (hb : WF n B) (p q : Nat) : hs (minusL A B) p q ↔ hs A p q ∧ ¬ hs B p q := by
  unfold minusL
  rw [ha.len, hb.len, Nat.max_self, hs_fill (Nat.le_refl _), testBit_ldiff, Bool.and_eq_true, Bool.not_eq_true']
  unfold hs
  rw [Bool.not_eq_true]
  constructor
  · exact fun h => h.2
  · exact fun h => ⟨by have := hs_left (L := A) h.1; rw [ha.len] at this; exact this, h⟩
theorem wf_minus (ha : WF n A) (hb : WF n B) : WF n (minusL A B) := by
  refine ⟨by unfold minusL; rw [fillK_length, ha.len, hb.len, Nat.max_self], fun p q h => ?_⟩
  exact ha.low _ _ ((hs_minus ha hb p q).1 h).1
theorem hs_zero (m p q : Nat) : ¬ hs (List.replicate m 0) p q := by
  intro h
  have hp := hs_left h
  rw [List.length_replicate] at hp
  unfold hs at h
  rw [gr_eq (R := 0) (by simp [hp])] at h
  simp at h
theorem hs_uni {X : List Nat} (hx : X.length = n) (ha : WF n A) (p q : Nat) : hs (uniK X A A.length) p q ↔ hs X p q ∨ hs A p q := by
  by_cases hp : p < n
  · unfold hs
    rw [gr_uniK (by omega), if_pos (by rw [ha.len]; exact hp), Nat.testBit_or, Bool.or_eq_true]
  · constructor
    · intro h
      have := hs_left h
      rw [uniK_length] at this
      omega
    · rintro (h | h)
      · have := hs_left h; omega
      · have := hs_left h; rw [ha.len] at this; omega
theorem hs_union (ha : WF n A) (hb : WF n B) (p q : Nat) : hs (unionL [A, B]) p q ↔ hs A p q ∨ hs B p q := by
  have e : unionL [A, B] = uniK (uniK (List.replicate n 0) A A.length) B B.length := by
    simp [unionL, maxLenL, ha.len, hb.len]
  rw [e, hs_uni (by rw [uniK_length, List.length_replicate]) hb, hs_uni (by rw [List.length_replicate]) ha]
  constructor
  · rintro ((h | h) | h)
    · exact absurd h (hs_zero _ _ _)
    · exact Or.inl h
    · exact Or.inr h
  · rintro (h | h)
    · exact Or.inl (Or.inr h)
    · exact Or.inr h
theorem wf_union (ha : WF n A) (hb : WF n B) : WF n (unionL [A, B]) := by
  refine ⟨by simp [unionL, maxLenL, uniK_length, ha.len, hb.len], fun p q h => ?_⟩
  rcases (hs_union ha hb p q).1 h with h | h
  · exact ha.low _ _ h
  · exact hb.low _ _ h
theorem hs_opt (ha : WF n A) (p q : Nat) : hs (optL A) p q ↔ hs A p q ∨ (p = q ∧ p < n) := by
  by_cases hp : p < n
  · unfold hs optL
    rw [gr_eq (optK_at (by rw [ha.len]; exact hp)), if_pos (by rw [ha.len]; exact hp), testBit_setB]
    by_cases e : q = p
    · subst e; simp [hp]
    · rw [if_neg e]
      constructor
      · exact fun h => Or.inl h
      · rintro (h | ⟨h, _⟩)
        · exact h
        · exact absurd h.symm e
  · constructor
    · intro h
      have := hs_left h
      unfold optL at this
      rw [optK_length, ha.len] at this
      omega
    · rintro (h | h)
      · have := hs_left h; rw [ha.len] at this; omega
      · omega

/-! Inverse -/
theorem hs_set {X : List Nat} {j R p q : Nat} : hs (X.set j R) p q ↔ if p = j ∧ j < X.length then R.testBit q = true else hs X p q := by
  unfold hs gr
  rw [List.getD_eq_getElem?_getD, List.getD_eq_getElem?_getD, List.getElem?_set]
  by_cases e : j = p
  · subst e
    by_cases hj : j < X.length
    · simp [hj]
    · simp [hj]
  · rw [if_neg e, if_neg (fun h => e h.1.symm)]
theorem hs_put {X : List Nat} {x y p q : Nat} (hx : x < X.length) (hy : y < X.length) : hs (putP X (x : Int) (y : Int) true) p q ↔ hs X p q ∨ (p = x ∧ q = y) := by
  rw [putP_nat hx hy (gr_of hx), hs_set]
  by_cases e : p = x
  · subst e
    rw [if_pos ⟨rfl, hx⟩, testBit_setB]
    by_cases e2 : q = y
    · subst e2; simp
    · rw [if_neg e2]
      constructor
      · exact fun h => Or.inl h
      · rintro (h | ⟨_, h⟩)
        · exact h
        · exact absurd h e2
  · rw [if_neg (fun h => e h.1)]
    constructor
    · exact fun h => Or.inl h
    · rintro (h | ⟨h, _⟩)
      · exact h
      · exact absurd h e
theorem putP_len (X : List Nat) (x y : Int) (v : Bool) : (putP X x y v).length = X.length := by
  unfold putP; split <;> simp
theorem invIn_len (p : Nat) : ∀ (l : List Nat) (X : List Nat), (invIn X p l).length = X.length
  | [], _ => rfl
  | q :: l, X => by
    show (invIn (putP X q p true) p l).length = _
    rw [invIn_len p l, putP_len]
theorem hs_invIn {p : Nat} : ∀ (l : List Nat) (X : List Nat), p < X.length → (∀ q ∈ l, q < X.length) → ∀ a b, hs (invIn X p l) a b ↔ hs X a b ∨ (b = p ∧ a ∈ l)
  | [], X, _, _, a, b => by simp [invIn]
  | q :: l, X, hp, hq, a, b => by
    show hs (invIn (putP X q p true) p l) a b ↔ _
    rw [hs_invIn l _ (by rw [putP_len]; exact hp) (fun r hr => by rw [putP_len]; exact hq r (List.mem_cons_of_mem _ hr)), hs_put (hq q (by simp)) hp]
    constructor
    · rintro ((h | ⟨rfl, rfl⟩) | ⟨rfl, h⟩)
      · exact Or.inl h
      · exact Or.inr ⟨rfl, by simp⟩
      · exact Or.inr ⟨rfl, List.mem_cons_of_mem _ h⟩
    · rintro (h | ⟨rfl, h⟩)
      · exact Or.inl (Or.inl h)
      · rcases List.mem_cons.1 h with rfl | h
        · exact Or.inl (Or.inr ⟨rfl, rfl⟩)
        · exact Or.inr ⟨rfl, h⟩
theorem invK_len (L : List Nat) (k : Nat) : (invK L k).length = L.length := by
  induction k with
  | zero => simp [invK]
  | succ k ih => rw [invK_succ, invIn_len, ih]
theorem hs_invK (hn : n ≤ 256) (ha : WF n A) (k : Nat) (hk : k ≤ n) (a b : Nat) : hs (invK A k) a b ↔ hs A b a ∧ b < k := by
  induction k generalizing a b with
  | zero =>
    constructor
    · intro h; exact absurd h (by simpa [invK] using hs_zero _ a b)
    · intro h; omega
  | succ k ih =>
    rw [invK_succ, hs_invIn _ _ (by rw [invK_len, ha.len]; omega) (fun q hq => by rw [invK_len, ha.len]; exact ha.low _ _ (mem_bitsOf.1 hq).2), ih (by omega)]
    constructor
    · rintro (⟨h1, h2⟩ | ⟨rfl, h⟩)
      · exact ⟨h1, by omega⟩
      · exact ⟨(mem_bitsOf.1 h).2, by omega⟩
    · rintro ⟨h1, h2⟩
      by_cases e : b = k
      · subst e
        exact Or.inr ⟨rfl, mem_bitsOf.2 ⟨by have := ha.low _ _ h1; omega, h1⟩⟩
      · exact Or.inl ⟨h1, by omega⟩
theorem hs_inv (hn : n ≤ 256) (ha : WF n A) (a b : Nat) : hs (invL A) a b ↔ hs A b a := by
  unfold invL
  rw [ha.len, hs_invK hn ha n (Nat.le_refl _)]
  constructor
  · exact fun h => h.1
  · exact fun h => ⟨h, by have := hs_left h; rw [ha.len] at this; exact this⟩
theorem wf_inv (hn : n ≤ 256) (ha : WF n A) : WF n (invL A) := by
  refine ⟨by unfold invL; rw [invK_len, ha.len], fun p q h => ?_⟩
  have := hs_left ((hs_inv hn ha p q).1 h)
  rw [ha.len] at this
  exact this

/-! Plus: Warshall's loops make the transitive closure. -/
theorem hs_via (k j : Nat) (p q : Nat) : hs (plusVia A k j) p q ↔ hs A p q ∨ (p < j ∧ hs A p k ∧ hs A k q) := by
  induction j generalizing p q with
  | zero => simp [plusVia]
  | succ j ih =>
    rw [plusVia_succ]
    have hrow : ∀ q, hs (plusVia A k j) j q ↔ hs A j q := fun q => by
      rw [ih]
      constructor
      · rintro (h | h)
        · exact h
        · omega
      · exact Or.inl
    have hk : ∀ q, hs (plusVia A k j) k q ↔ hs A k q := fun q => by
      rw [ih]
      constructor
      · rintro (h | h)
        · exact h
        · exact h.2.2
      · exact Or.inl
    unfold plusRow
    by_cases hb : (gr (plusVia A k j) j).testBit k = true
    · rw [if_pos hb, hs_set]
      have hjk : hs A j k := (hrow k).1 hb
      by_cases e : p = j
      · subst e
        rw [if_pos ⟨rfl, hs_left (show hs (plusVia A k p) p k from hb)⟩, Nat.testBit_or, Bool.or_eq_true]
        constructor
        · rintro (h | h)
          · exact Or.inl ((hrow q).1 h)
          · exact Or.inr ⟨by omega, hjk, (hk q).1 h⟩
        · rintro (h | ⟨_, _, h⟩)
          · exact Or.inl ((hrow q).2 h)
          · exact Or.inr ((hk q).2 h)
      · rw [if_neg (fun h => e h.1), ih]
        constructor
        · rintro (h | ⟨h1, h2⟩)
          · exact Or.inl h
          · exact Or.inr ⟨by omega, h2⟩
        · rintro (h | ⟨h1, h2⟩)
          · exact Or.inl h
          · exact Or.inr ⟨by omega, h2⟩
    · rw [if_neg hb, ih]
      constructor
      · rintro (h | ⟨h1, h2⟩)
        · exact Or.inl h
        · exact Or.inr ⟨by omega, h2⟩
      · rintro (h | ⟨h1, h2⟩)
        · exact Or.inl h
        · by_cases e : p = j
          · subst e
            exact absurd ((hrow k).2 h2.1) hb
          · exact Or.inr ⟨by omega, h2⟩
theorem hs_viaN (ha : A.length = n) (k : Nat) (p q : Nat) : hs (plusVia A k n) p q ↔ hs A p q ∨ (hs A p k ∧ hs A k q) := by
  rw [hs_via]
  constructor
  · rintro (h | h)
    · exact Or.inl h
    · exact Or.inr h.2
  · rintro (h | h)
    · exact Or.inl h
    · exact Or.inr ⟨by have := hs_left h.1; omega, h⟩
theorem plusN_step (ha : A.length = n) (k p q : Nat) : hs (plusN A (k + 1)) p q ↔ hs (plusN A k) p q ∨ (hs (plusN A k) p k ∧ hs (plusN A k) k q) := by
  rw [plusN_succ, ha]
  exact hs_viaN (by rw [plusN_length]; exact ha) k p q
theorem plusN_sub (ha : A.length = n) (k : Nat) {p q : Nat} (h : hs A p q) : hs (plusN A k) p q := by
  induction k with
  | zero => exact h
  | succ k ih => exact (plusN_step ha k p q).2 (Or.inl ih)
theorem plusN_sound (ha : A.length = n) (k : Nat) {p q : Nat} (h : hs (plusN A k) p q) : TransGen (hs A) p q := by
  induction k generalizing p q with
  | zero => exact TransGen.single h
  | succ k ih =>
    rcases (plusN_step ha k p q).1 h with h | ⟨h1, h2⟩
    · exact ih h
    · exact TransGen.trans (ih h1) (ih h2)
theorem plusN_via (ha : A.length = n) (k : Nat) {p v q : Nat} (hv : v < k) (h1 : hs (plusN A k) p v) (h2 : hs (plusN A k) v q) : hs (plusN A k) p q := by
  induction k generalizing p v q with
  | zero => omega
  | succ k ih =>
    rw [plusN_step ha] at h1 h2 ⊢
    by_cases e : v = k
    · subst e
      have a1 : hs (plusN A v) p v := by
        rcases h1 with h | h
        · exact h
        · exact h.1
      have a2 : hs (plusN A v) v q := by
        rcases h2 with h | h
        · exact h
        · exact h.2
      exact Or.inr ⟨a1, a2⟩
    · have hv : v < k := by omega
      rcases h1 with h1 | ⟨h1, h1'⟩ <;> rcases h2 with h2 | ⟨h2, h2'⟩
      · exact Or.inl (ih hv h1 h2)
      · exact Or.inr ⟨ih hv h1 h2, h2'⟩
      · exact Or.inr ⟨h1, ih hv h1' h2⟩
      · exact Or.inr ⟨h1, h2'⟩
theorem hs_plus (ha : WF n A) (p q : Nat) : hs (plusL A) p q ↔ TransGen (hs A) p q := by
  constructor
  · exact plusN_sound ha.len _
  · intro h
    induction h with
    | single h => exact plusN_sub ha.len _ h
    | tail _ h2 ih =>
      refine plusN_via ha.len _ ?_ ih (plusN_sub ha.len _ h2)
      exact hs_left h2
theorem trans_low (ha : WF n A) {p q : Nat} (h : TransGen (hs A) p q) : q < n := by
  cases h with
  | single h => exact ha.low _ _ h
  | tail _ h => exact ha.low _ _ h
theorem wf_plus (ha : WF n A) : WF n (plusL A) := by
  refine ⟨by unfold plusL; rw [plusN_length, ha.len], fun p q h => ?_⟩
  exact trans_low ha ((hs_plus ha p q).1 h)

theorem trans_mono {R S : Nat → Nat → Prop} (h : ∀ p q, R p q → S p q) {p q : Nat} (k : TransGen R p q) : TransGen S p q := by
  induction k with
  | single k => exact TransGen.single (h _ _ k)
  | tail _ k ih => exact TransGen.tail ih (h _ _ k)
theorem trans_swap {R S : Nat → Nat → Prop} (h : ∀ p q, R p q → S q p) {p q : Nat} (k : TransGen R p q) : TransGen S q p := by
  induction k with
  | single k => exact TransGen.single (h _ _ k)
  | tail _ k ih => exact TransGen.trans (TransGen.single (h _ _ k)) ih
theorem trans_head {R : Nat → Nat → Prop} {p q : Nat} (k : TransGen R p q) : R p q ∨ ∃ m, R p m ∧ TransGen R m q := by
  induction k with
  | single k => exact Or.inl k
  | tail _ k ih =>
    rcases ih with h | ⟨m, h1, h2⟩
    · exact Or.inr ⟨_, h, TransGen.single k⟩
    · exact Or.inr ⟨m, h1, TransGen.tail h2 k⟩

/-! The laws -/
theorem law_assoc (hn : n ≤ 256) (ha : WF n A) (hb : WF n B) (hc : WF n C) : compL (compL A B) C = compL A (compL B C) := by
  refine WF.ext (wf_comp hn (wf_comp hn ha hb) hc) (wf_comp hn ha (wf_comp hn hb hc)) fun p q => ?_
  rw [hs_comp hn (wf_comp hn ha hb) hc, hs_comp hn ha (wf_comp hn hb hc)]
  constructor
  · rintro ⟨m, h1, h2⟩
    obtain ⟨k, h3, h4⟩ := (hs_comp hn ha hb _ _).1 h1
    exact ⟨k, h3, (hs_comp hn hb hc _ _).2 ⟨m, h4, h2⟩⟩
  · rintro ⟨m, h1, h2⟩
    obtain ⟨k, h3, h4⟩ := (hs_comp hn hb hc _ _).1 h2
    exact ⟨k, (hs_comp hn ha hb _ _).2 ⟨m, h1, h3⟩, h4⟩
theorem law_inv (hn : n ≤ 256) (ha : WF n A) (hb : WF n B) : invL (compL A B) = compL (invL B) (invL A) := by
  refine WF.ext (wf_inv hn (wf_comp hn ha hb)) (wf_comp hn (wf_inv hn hb) (wf_inv hn ha)) fun p q => ?_
  rw [hs_inv hn (wf_comp hn ha hb), hs_comp hn ha hb, hs_comp hn (wf_inv hn hb) (wf_inv hn ha)]
  constructor
  · rintro ⟨m, h1, h2⟩
    exact ⟨m, (hs_inv hn hb _ _).2 h2, (hs_inv hn ha _ _).2 h1⟩
  · rintro ⟨m, h1, h2⟩
    exact ⟨m, (hs_inv hn ha _ _).1 h2, (hs_inv hn hb _ _).1 h1⟩
theorem law_inv2 (hn : n ≤ 256) (ha : WF n A) : invL (invL A) = A := by
  refine WF.ext (wf_inv hn (wf_inv hn ha)) ha fun p q => ?_
  rw [hs_inv hn (wf_inv hn ha), hs_inv hn ha]
theorem law_dist (hn : n ≤ 256) (ha : WF n A) (hb : WF n B) (hc : WF n C) : compL A (unionL [B, C]) = unionL [compL A B, compL A C] := by
  refine WF.ext (wf_comp hn ha (wf_union hb hc)) (wf_union (wf_comp hn ha hb) (wf_comp hn ha hc)) fun p q => ?_
  rw [hs_comp hn ha (wf_union hb hc), hs_union (wf_comp hn ha hb) (wf_comp hn ha hc), hs_comp hn ha hb, hs_comp hn ha hc]
  constructor
  · rintro ⟨m, h1, h2⟩
    rcases (hs_union hb hc _ _).1 h2 with h | h
    · exact Or.inl ⟨m, h1, h⟩
    · exact Or.inr ⟨m, h1, h⟩
  · rintro (⟨m, h1, h2⟩ | ⟨m, h1, h2⟩)
    · exact ⟨m, h1, (hs_union hb hc _ _).2 (Or.inl h2)⟩
    · exact ⟨m, h1, (hs_union hb hc _ _).2 (Or.inr h2)⟩
theorem law_parts (ha : WF n A) (hb : WF n B) : unionL [minusL A B, interL A B] = A := by
  refine WF.ext (wf_union (wf_minus ha hb) (wf_inter ha hb)) ha fun p q => ?_
  rw [hs_union (wf_minus ha hb) (wf_inter ha hb), hs_minus ha hb, hs_inter ha hb]
  constructor
  · rintro (h | h)
    · exact h.1
    · exact h.1
  · intro h
    by_cases k : hs B p q
    · exact Or.inr ⟨h, k⟩
    · exact Or.inl ⟨h, k⟩
theorem law_plus2 (ha : WF n A) : plusL (plusL A) = plusL A := by
  refine WF.ext (wf_plus (wf_plus ha)) (wf_plus ha) fun p q => ?_
  rw [hs_plus (wf_plus ha)]
  constructor
  · intro h
    rw [hs_plus ha]
    induction h with
    | single h => exact (hs_plus ha _ _).1 h
    | tail _ h ih => exact TransGen.trans ih ((hs_plus ha _ _).1 h)
  · exact fun h => TransGen.single h
theorem law_step (hn : n ≤ 256) (ha : WF n A) : plusL A = unionL [A, compL A (plusL A)] := by
  refine WF.ext (wf_plus ha) (wf_union ha (wf_comp hn ha (wf_plus ha))) fun p q => ?_
  rw [hs_union ha (wf_comp hn ha (wf_plus ha)), hs_comp hn ha (wf_plus ha), hs_plus ha]
  constructor
  · intro h
    rcases trans_head h with h | ⟨m, h1, h2⟩
    · exact Or.inl h
    · exact Or.inr ⟨m, h1, (hs_plus ha _ _).2 h2⟩
  · rintro (h | ⟨m, h1, h2⟩)
    · exact TransGen.single h
    · exact TransGen.trans (TransGen.single h1) ((hs_plus ha _ _).1 h2)
theorem law_plusInv (hn : n ≤ 256) (ha : WF n A) : plusL (invL A) = invL (plusL A) := by
  refine WF.ext (wf_plus (wf_inv hn ha)) (wf_inv hn (wf_plus ha)) fun p q => ?_
  rw [hs_plus (wf_inv hn ha), hs_inv hn (wf_plus ha), hs_plus ha]
  constructor
  · exact trans_swap fun p q h => (hs_inv hn ha p q).1 h
  · exact trans_swap fun p q h => (hs_inv hn ha q p).2 h
theorem law_interComm (ha : WF n A) (hb : WF n B) : interL A B = interL B A := by
  refine WF.ext (wf_inter ha hb) (wf_inter hb ha) fun p q => ?_
  rw [hs_inter ha hb, hs_inter hb ha, And.comm]
theorem law_unionComm (ha : WF n A) (hb : WF n B) : unionL [A, B] = unionL [B, A] := by
  refine WF.ext (wf_union ha hb) (wf_union hb ha) fun p q => ?_
  rw [hs_union ha hb, hs_union hb ha, Or.comm]

theorem foldl_zero (l : List Nat) (h : ∀ x ∈ l, x = 0) : l.foldl (· + ·) 0 = 0 := by
  induction l with
  | nil => rfl
  | cons x l ih =>
    rw [List.foldl_cons, h x (by simp)]
    exact ih fun y hy => h y (List.mem_cons_of_mem _ hy)
theorem within_of (ha : WF n A) (hb : WF n B) (h : ∀ p q, hs A p q → hs B p q) : (sizeL (minusL A B) == 0) = true := by
  rw [beq_iff_eq]
  unfold sizeL sizeK
  apply foldl_zero
  intro x hx
  obtain ⟨p, _, rfl⟩ := List.mem_map.1 hx
  rw [List.length_eq_zero_iff, List.eq_nil_iff_forall_not_mem]
  intro q hq
  have h1 := (hs_minus ha hb p q).1 (mem_bitsOf.1 hq).2
  exact h1.2 (h p q h1.1)
theorem law_trans (hn : n ≤ 256) (ha : WF n A) : (sizeL (minusL (compL (plusL A) (plusL A)) (plusL A)) == 0) = true := by
  refine within_of (wf_comp hn (wf_plus ha) (wf_plus ha)) (wf_plus ha) fun p q h => ?_
  obtain ⟨m, h1, h2⟩ := (hs_comp hn (wf_plus ha) (wf_plus ha) p q).1 h
  exact (hs_plus ha p q).2 (TransGen.trans ((hs_plus ha _ _).1 h1) ((hs_plus ha _ _).1 h2))
theorem law_in (ha : WF n A) : (sizeL (minusL A (plusL A)) == 0) = true :=
  within_of ha (wf_plus ha) fun p q h => (hs_plus ha p q).2 (TransGen.single h)

theorem loops_bit (L : List Nat) (k p : Nat) : (loopsK L k).testBit p = true ↔ p < k ∧ hs L p p := by
  induction k with
  | zero => simp [loopsK]
  | succ k ih =>
    rw [loopsK_succ, testBit_setB]
    by_cases e : p = k
    · subst e
      rw [if_pos rfl]
      unfold hs
      constructor
      · exact fun h => ⟨by omega, h⟩
      · exact fun h => h.2
    · rw [if_neg e, ih]
      constructor
      · exact fun h => ⟨by omega, h.2⟩
      · exact fun h => ⟨by omega, h.2⟩
theorem loops_zero (L : List Nat) : loopsL L = 0 ↔ ∀ p, ¬ hs L p p := by
  constructor
  · intro h p hp
    have := (loops_bit L L.length p).2 ⟨hs_left hp, hp⟩
    unfold loopsL at h
    rw [h] at this
    simp at this
  · intro h
    apply Nat.eq_of_testBit_eq
    intro p
    rw [Nat.zero_testBit, Bool.eq_false_iff]
    intro hb
    exact h p ((loops_bit L L.length p).1 hb).2
theorem law_acyclic (ha : WF n A) (hb : WF n B) (h : loopsL (plusL A) ≠ 0) : loopsL (plusL (unionL [A, B])) ≠ 0 := by
  intro k
  apply h
  rw [loops_zero] at k ⊢
  intro p hp
  refine k p ((hs_plus (wf_union ha hb) p p).2 ?_)
  exact trans_mono (fun a b hab => (hs_union ha hb a b).2 (Or.inl hab)) ((hs_plus ha p p).1 hp)
end
end Go.Proofs.YtpflelkdkpabbaaDoor
