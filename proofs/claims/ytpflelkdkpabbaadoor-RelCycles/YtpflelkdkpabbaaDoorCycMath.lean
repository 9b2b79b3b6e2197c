/- What a told cycle is, and why the points of a relation without any can be numbered. -/
import Derived.Test.YtpflelkdkpabbaaDoorRelMath
namespace Go.Proofs.YtpflelkdkpabbaaDoor
open Go.RowKit Go.Shelf Sx Relation

theorem bit_of_ne {x : Nat} (h : x ≠ 0) : ∃ q, x.testBit q = true := by
  apply Classical.byContradiction
  intro hn
  apply h
  apply Nat.eq_of_testBit_eq
  intro q
  rw [Nat.zero_testBit, Bool.eq_false_iff]
  exact fun hq => hn ⟨q, hq⟩
theorem and_ne {x y : Nat} (h : x &&& y ≠ 0) : ∃ q, x.testBit q = true ∧ y.testBit q = true := by
  obtain ⟨q, hq⟩ := bit_of_ne h
  rw [Nat.testBit_and, Bool.and_eq_true] at hq
  exact ⟨q, hq⟩
theorem and_zero {x y q : Nat} (h : x &&& y = 0) (h1 : x.testBit q = true) (h2 : y.testBit q = true) : False := by
  have := Nat.testBit_and x y q
  rw [h, h1, h2, Nat.zero_testBit] at this
  cases this
theorem or_bit {x y q : Nat} : (x ||| y).testBit q = true ↔ x.testBit q = true ∨ y.testBit q = true := by
  rw [Nat.testBit_or, Bool.or_eq_true]
theorem gr_cons_succ (x : Nat) (l : List Nat) (i : Nat) : gr (x :: l) (i + 1) = gr l i := rfl
theorem gr_cons_zero (x : Nat) (l : List Nat) : gr (x :: l) 0 = x := rfl

/-- A way along pairs. -/
def Path (L : List Nat) : Nat → List Nat → Nat → Prop
  | a, [], b => hs L a b
  | a, x :: l, b => hs L a x ∧ Path L x l b
/-- A way of k pairs ends here. -/
def PathTo (L : List Nat) : Nat → Nat → Prop
  | 0, _ => True
  | k + 1, p => ∃ q, hs L q p ∧ PathTo L k q

section
variable {n : Nat} {L : List Nat}
theorem pred_bits (hn : n ≤ 256) (ha : WF n L) (near q : Nat) : (joinRows (invL L) (bitsOf near)).testBit q = true ↔ ∃ r, near.testBit r = true ∧ hs L q r := by
  unfold joinRows
  rw [join_bits]
  constructor
  · rintro (h | ⟨r, hr, h⟩)
    · simp at h
    · exact ⟨r, (mem_bitsOf.1 hr).2, (hs_inv hn ha r q).1 h⟩
  · rintro ⟨r, h1, h2⟩
    exact Or.inr ⟨r, mem_bitsOf.2 ⟨by have := ha.low _ _ h2; omega, h1⟩, (hs_inv hn ha r q).2 h2⟩

theorem lay_meets (hn : n ≤ 256) (ha : WF n L) {s : Nat} (hc : TransGen (hs L) s s) : ∀ (ly : List Nat) (seen near : Nat), LayOK L (invL L) s seen near ly → (seen ||| near).testBit s = true →
    (∀ x y, seen.testBit x = true → hs L y x → (seen ||| near).testBit y = true) → gr L s &&& seen = 0 → ∃ k, ly.length = k + 1 ∧ gr L s &&& gr ly k ≠ 0
  | [], seen, near, hl, h1, h2, h3 => by
    have e : near = 0 := hl
    subst e
    rw [Nat.or_zero] at h1
    have key : ∀ m x, TransGen (hs L) m x → seen.testBit x = true → seen.testBit m = true := by
      intro m x h
      induction h with
      | single h => intro hx; have := h2 _ _ hx h; rwa [Nat.or_zero] at this
      | tail _ h ih => intro hx; have := h2 _ _ hx h; rw [Nat.or_zero] at this; exact ih this
    rcases trans_head hc with h | ⟨m, h4, h5⟩
    · exact (and_zero h3 h h1).elim
    · exact (and_zero h3 h4 (key m s h5 h1)).elim
  | x :: rest, seen, near, hl, h1, h2, h3 => by
    obtain ⟨hne, rfl, hgo, hstop⟩ : near ≠ 0 ∧ x = near ∧ (gr L s &&& near = 0 → LayOK L (invL L) s (seen ||| near) (ldiff (joinRows (invL L) (bitsOf near)) (seen ||| near)) rest) ∧ (gr L s &&& near ≠ 0 → rest = []) := hl
    by_cases hm : gr L s &&& x = 0
    · have c1 : ∀ a b, (seen ||| x).testBit a = true → hs L b a → ((seen ||| x) ||| ldiff (joinRows (invL L) (bitsOf x)) (seen ||| x)).testBit b = true := by
        intro a b ha1 hb
        rcases or_bit.1 ha1 with h | h
        · exact or_bit.2 (Or.inl (h2 a b h hb))
        · by_cases hs2 : (seen ||| x).testBit b = true
          · exact or_bit.2 (Or.inl hs2)
          · refine or_bit.2 (Or.inr ?_)
            rw [testBit_ldiff, Bool.and_eq_true, Bool.not_eq_true']
            exact ⟨(pred_bits hn ha x b).2 ⟨a, h, hb⟩, by simpa using hs2⟩
      have c2 : gr L s &&& (seen ||| x) = 0 := by
        apply Nat.eq_of_testBit_eq
        intro q
        rw [Nat.zero_testBit, Nat.testBit_and, Bool.eq_false_iff]
        intro hq
        rw [Bool.and_eq_true, or_bit] at hq
        rcases hq.2 with h | h
        · exact and_zero h3 hq.1 h
        · exact and_zero hm hq.1 h
      obtain ⟨k, hk1, hk2⟩ := lay_meets hn ha hc rest _ _ (hgo hm) (or_bit.2 (Or.inl h1)) c1 c2
      exact ⟨k + 1, by rw [List.length_cons, hk1], hk2⟩
    · exact ⟨0, by rw [hstop hm]; rfl, hm⟩

structure LayP (L : List Nat) (seen near : Nat) (ly : List Nat) : Prop where
  off : ∀ i, i < ly.length → ∀ q, (gr ly i).testBit q = true → seen.testBit q = true → False
  first : 0 < ly.length → gr ly 0 = near
  down : ∀ i, i + 1 < ly.length → ∀ q, (gr ly (i + 1)).testBit q = true → ∃ r, hs L q r ∧ (gr ly i).testBit r = true
  apart : ∀ i j, i < j → j < ly.length → ∀ q, (gr ly i).testBit q = true → (gr ly j).testBit q = true → False
theorem lay_props (hn : n ≤ 256) (ha : WF n L) (s : Nat) : ∀ (ly : List Nat) (seen near : Nat), LayOK L (invL L) s seen near ly → (∀ q, near.testBit q = true → seen.testBit q = true → False) → LayP L seen near ly
  | [], seen, near, _, _ => ⟨fun i h => by simp at h, fun h => by simp at h, fun i h => by simp at h, fun i j _ h => by simp at h⟩
  | x :: rest, seen, near, hl, hd => by
    obtain ⟨hne, rfl, hgo, hstop⟩ : near ≠ 0 ∧ x = near ∧ (gr L s &&& near = 0 → LayOK L (invL L) s (seen ||| near) (ldiff (joinRows (invL L) (bitsOf near)) (seen ||| near)) rest) ∧ (gr L s &&& near ≠ 0 → rest = []) := hl
    by_cases hm : gr L s &&& x = 0
    · have ih := lay_props hn ha s rest _ _ (hgo hm) (fun q h1 h2 => by
        rw [testBit_ldiff, h2] at h1
        simp at h1)
      refine ⟨?_, fun _ => rfl, ?_, ?_⟩
      · intro i hi q h1 h2
        cases i with
        | zero => exact hd q h1 h2
        | succ i => exact ih.off i (by simpa using hi) q h1 (or_bit.2 (Or.inl h2))
      · intro i hi q h1
        cases i with
        | zero =>
          have hr : 0 < rest.length := by simpa using hi
          rw [gr_cons_succ, ih.first hr, testBit_ldiff, Bool.and_eq_true] at h1
          obtain ⟨r, h2, h3⟩ := (pred_bits hn ha x q).1 h1.1
          exact ⟨r, h3, h2⟩
        | succ i => exact ih.down i (by simpa using hi) q h1
      · intro i j hij hj q h1 h2
        cases j with
        | zero => omega
        | succ j =>
          cases i with
          | zero => exact ih.off j (by simpa using hj) q h2 (or_bit.2 (Or.inr h1))
          | succ i => exact ih.apart i j (by omega) (by simpa using hj) q h1 h2
    · have e := hstop hm
      subst e
      refine ⟨?_, fun _ => rfl, fun i h => by simp at h, fun i j h1 h2 => by simp at h2; omega⟩
      intro i hi q h1 h2
      obtain rfl : i = 0 := by simp at hi; omega
      exact hd q h1 h2

theorem cyc_path (hn : n ≤ 256) (ha : WF n L) {s seen near : Nat} {ly : List Nat} (hp : LayP L seen near ly) (h0 : ∀ q, (gr ly 0).testBit q = true → q = s) :
    ∀ i, i < ly.length → ∀ last, (∃ q, hs L last q ∧ (gr ly i).testBit q = true) →
      Path L last (cycF L last (remL ly i)) s ∧ (cycF L last (remL ly i)).Pairwise (· ≠ ·) ∧ ∀ x ∈ cycF L last (remL ly i), ∃ m, 1 ≤ m ∧ m ≤ i ∧ (gr ly m).testBit x = true := by
  intro i
  induction i with
  | zero =>
    rintro _ last ⟨q, h1, h2⟩
    rw [remL_zero]
    obtain rfl := h0 q h2
    exact ⟨h1, List.Pairwise.nil, fun x hx => by cases hx⟩
  | succ i ih =>
    rintro hi last ⟨q0, h1, h2⟩
    rw [remL_succ hi]
    have hmem : q0 ∈ bitsOf (gr L last &&& gr ly (i + 1)) := mem_bitsOf.2 ⟨by have := ha.low _ _ h1; omega, by rw [Nat.testBit_and, Bool.and_eq_true]; exact ⟨h1, h2⟩⟩
    cases hb : bitsOf (gr L last &&& gr ly (i + 1)) with
    | nil => rw [hb] at hmem; cases hmem
    | cons q tl =>
      have e : cycF L last (gr ly (i + 1) :: remL ly i) = q :: cycF L q (remL ly i) := by
        show (match bitsOf (gr L last &&& gr ly (i + 1)) with
          | [] => cycF L last (remL ly i)
          | q :: _ => q :: cycF L q (remL ly i)) = _
        rw [hb]
      rw [e]
      have hq : q ∈ bitsOf (gr L last &&& gr ly (i + 1)) := by rw [hb]; simp
      have hq2 := (mem_bitsOf.1 hq).2
      rw [Nat.testBit_and, Bool.and_eq_true] at hq2
      obtain ⟨p1, p2, p3⟩ := ih (by omega) q (hp.down i hi q hq2.2)
      refine ⟨⟨hq2.1, p1⟩, List.Pairwise.cons (fun x hx e => ?_) p2, ?_⟩
      · subst e
        obtain ⟨m, _, h4, h5⟩ := p3 _ hx
        exact hp.apart m (i + 1) (by omega) hi _ h5 hq2.2
      · intro x hx
        rcases List.mem_cons.1 hx with rfl | hx
        · exact ⟨i + 1, by omega, by omega, hq2.2⟩
        · obtain ⟨m, h3, h4, h5⟩ := p3 x hx
          exact ⟨m, h3, by omega, h5⟩

theorem path_trans : ∀ (l : List Nat) (a b : Nat), Path L a l b → TransGen (hs L) a b ∧ ∀ x ∈ l, TransGen (hs L) a x ∧ TransGen (hs L) x b
  | [], a, b, h => ⟨TransGen.single h, fun x hx => by cases hx⟩
  | y :: l, a, b, h => by
    obtain ⟨h1, h2⟩ : hs L a y ∧ Path L y l b := h
    obtain ⟨h3, h4⟩ := path_trans l y b h2
    refine ⟨TransGen.trans (TransGen.single h1) h3, fun x hx => ?_⟩
    rcases List.mem_cons.1 hx with rfl | hx
    · exact ⟨TransGen.single h1, h3⟩
    · exact ⟨TransGen.trans (TransGen.single h1) (h4 x hx).1, (h4 x hx).2⟩

theorem loops_mem (hn : n ≤ 256) (ha : WF n L) (p : Nat) : p ∈ bitsOf (loopsL (plusL L)) ↔ TransGen (hs L) p p := by
  rw [mem_bitsOf]
  unfold loopsL
  rw [loops_bit, hs_plus ha, plusL_length]
  constructor
  · exact fun h => h.2.2
  · intro h
    have := trans_low ha h
    exact ⟨by omega, by rw [ha.len]; exact this, h⟩

/-- What Cycle tells, in words of the relation. -/
theorem cyc_facts (hn : n ≤ 256) (ha : WF n L) {out : List Nat} (h : CycOK L out) :
    (out = [] ∧ ∀ p, ¬ TransGen (hs L) p p) ∨ ∃ s l, out = s :: l ∧ Path L s l s ∧ (s :: l).Pairwise (· ≠ ·) ∧ (∀ x ∈ s :: l, s ≤ x ∧ x < n) ∧ (∀ q, q < s → ¬ hs (plusL L) q q) ∧ hs (plusL L) s s := by
  rcases h with ⟨h1, h2⟩ | ⟨s, tl, ly, h1, h2, h3⟩
  · left
    refine ⟨h2, fun p hp => ?_⟩
    have := (loops_mem hn ha p).2 hp
    rw [h1] at this
    cases this
  · right
    have hmem : s ∈ bitsOf (loopsL (plusL L)) := by rw [h1]; simp
    have hc := (loops_mem hn ha s).1 hmem
    have hleast : ∀ q, TransGen (hs L) q q → s ≤ q := by
      intro q hq
      have h5 := (loops_mem hn ha q).2 hq
      have h6 := bitsOf_sorted (loopsL (plusL L))
      rw [h1] at h5 h6
      rcases List.mem_cons.1 h5 with rfl | h5
      · exact Nat.le_refl _
      · exact Nat.le_of_lt ((List.pairwise_cons.1 h6).1 q h5)
    have hbit : ∀ q, (setB 0 s true).testBit q = true ↔ q = s := by
      intro q
      rw [testBit_setB]
      by_cases e : q = s
      · simp [e]
      · simp [e]
    obtain ⟨k, hk1, hk2⟩ := lay_meets hn ha hc ly 0 _ h2 (or_bit.2 (Or.inr ((hbit s).2 rfl))) (fun x y hx => by simp at hx) (by simp)
    have hp := lay_props hn ha s ly 0 _ h2 (fun q _ h => by simp at h)
    have h0 : ∀ q, (gr ly 0).testBit q = true → q = s := by
      intro q hq
      rw [hp.first (by omega)] at hq
      exact (hbit q).1 hq
    obtain ⟨q0, hq1, hq2⟩ := and_ne hk2
    have hk : ly.length - 1 = k := by omega
    rw [hk] at h3
    obtain ⟨p1, p2, p3⟩ := cyc_path hn ha hp h0 k (by omega) s ⟨q0, hq1, hq2⟩
    have hpt := path_trans _ s s p1
    refine ⟨s, _, h3, p1, List.Pairwise.cons (fun x hx e => ?_) p2, ?_, ?_, (hs_plus ha s s).2 hc⟩
    · subst e
      obtain ⟨m, h4, h5, h6⟩ := p3 _ hx
      refine hp.apart 0 m (by omega) (by omega) s ?_ h6
      rw [hp.first (by omega)]
      exact (hbit s).2 rfl
    · intro x hx
      rcases List.mem_cons.1 hx with rfl | hx
      · exact ⟨Nat.le_refl _, trans_low ha hc⟩
      · have hx2 := hpt.2 x hx
        have hxx := TransGen.trans hx2.2 hx2.1
        exact ⟨hleast x hxx, trans_low ha hxx⟩
    · intro q hq hqq
      have := hleast q ((hs_plus ha q q).1 hqq)
      omega

theorem path_at : ∀ (l : List Nat) (a b : Nat), Path L a l b → ∀ i, i < (a :: l).length → hs L (gr (a :: l) i) (if i + 1 < (a :: l).length then gr (a :: l) (i + 1) else b)
  | [], a, b, h, i, hi => by
    obtain rfl : i = 0 := by simp at hi; omega
    exact h
  | y :: l, a, b, h, i, hi => by
    obtain ⟨h1, h2⟩ : hs L a y ∧ Path L y l b := h
    cases i with
    | zero =>
      rw [if_pos (by simp)]
      exact h1
    | succ i =>
      have := path_at l y b h2 i (by simpa using hi)
      simpa [gr_cons_succ] using this

/-! The numbering -/
theorem nodup_le : ∀ (n : Nat) (l : List Nat), l.Pairwise (· ≠ ·) → (∀ x ∈ l, x < n) → l.length ≤ n
  | 0, l, _, h => by
    cases l with
    | nil => simp
    | cons x l => have := h x (by simp); omega
  | n + 1, l, h1, h2 => by
    have h3 := nodup_le n (l.filter (fun y => !decide (y = n))) (List.Pairwise.filter _ h1) (fun x hx => by
      rw [List.mem_filter] at hx
      have := h2 x hx.1
      have : x ≠ n := by simpa using hx.2
      omega)
    have h4 : l.length ≤ (l.filter (fun y => !decide (y = n))).length + 1 := by
      clear h2 h3
      induction l with
      | nil => simp
      | cons x l ih =>
        have hx := List.pairwise_cons.1 h1
        by_cases e : x = n
        · subst e
          have : l.filter (fun y => !decide (y = x)) = l := by
            rw [List.filter_eq_self]
            intro y hy
            have := hx.1 y hy
            simpa using fun e => this e.symm
          rw [List.filter_cons_of_neg (by simp), this, List.length_cons]
          omega
        · have := ih hx.2
          rw [List.filter_cons_of_pos (by simpa using e), List.length_cons, List.length_cons]
          omega
    omega
theorem pathTo_list (ha : WF n L) (hac : ∀ p, ¬ TransGen (hs L) p p) : ∀ (k p : Nat), p < n → PathTo L k p → ∃ l : List Nat, l.length = k + 1 ∧ l.Pairwise (· ≠ ·) ∧ (∀ x ∈ l, x < n) ∧ ∀ x ∈ l, x = p ∨ TransGen (hs L) x p
  | 0, p, hp, _ => ⟨[p], rfl, by simp, by simpa using hp, by simp⟩
  | k + 1, p, hp, h => by
    obtain ⟨q, h1, h2⟩ : ∃ q, hs L q p ∧ PathTo L k q := h
    obtain ⟨l, h3, h4, h5, h6⟩ := pathTo_list ha hac k q (by have := hs_left h1; rw [ha.len] at this; exact this) h2
    have hto : ∀ x ∈ l, TransGen (hs L) x p := by
      intro x hx
      rcases h6 x hx with rfl | h
      · exact TransGen.single h1
      · exact TransGen.tail h h1
    refine ⟨p :: l, by simp [h3], List.Pairwise.cons (fun x hx e => ?_) h4, ?_, ?_⟩
    · subst e
      exact hac _ (hto _ hx)
    · intro x hx
      rcases List.mem_cons.1 hx with rfl | hx
      · exact hp
      · exact h5 x hx
    · intro x hx
      rcases List.mem_cons.1 hx with rfl | hx
      · exact Or.inl rfl
      · exact Or.inr (hto x hx)
theorem pathTo_short (ha : WF n L) (hac : ∀ p, ¬ TransGen (hs L) p p) {k p : Nat} (hp : p < n) (h : PathTo L k p) : k < n := by
  obtain ⟨l, h1, h2, h3, _⟩ := pathTo_list ha hac k p hp h
  have := nodup_le n l h2 h3
  omega

/-- In the middle of round r, ahead of point p. -/
structure Mid (L : List Nat) (n r p : Nat) (num : List Nat) : Prop where
  len : num.length = n
  le : ∀ x, gr num x ≤ r
  lt : ∀ x, p ≤ x → gr num x < r
  up : ∀ q x, hs L q x → gr num x ≠ 0 → gr num q ≠ 0 ∧ gr num q < gr num x
  old : ∀ x, x < n → gr num x = 0 ∨ gr num x = r → PathTo L (r - 1) x
  new : ∀ x, x < p → gr num x = 0 → PathTo L r x
theorem gr_zeros (n x : Nat) : gr (List.replicate n 0) x = 0 := by
  by_cases h : x < n
  · exact gr_eq (by simp [h])
  · exact gr_not (by simpa using h)
theorem mid_start (L : List Nat) (n : Nat) : Mid L n 1 0 (List.replicate n 0) :=
  ⟨by simp, fun x => by rw [gr_zeros]; omega, fun x _ => by rw [gr_zeros]; omega, fun q x _ h => absurd (gr_zeros n x) h, fun x _ _ => trivial, fun x hx => by omega⟩
theorem mid_next {r : Nat} {num : List Nat} (h : Mid L n r n num) : Mid L n (r + 1) 0 num := by
  refine ⟨h.len, fun x => by have := h.le x; omega, fun x _ => by have := h.le x; omega, h.up, ?_, fun x hx => by omega⟩
  rintro x hx (h0 | h0)
  · exact h.new x hx h0
  · have := h.le x; omega
theorem gr_set {num : List Nat} {p v x : Nat} (hp : p < num.length) : gr (num.set p v) x = if x = p then v else gr num x := by
  unfold gr
  rw [List.getD_eq_getElem?_getD, List.getD_eq_getElem?_getD, List.getElem?_set]
  by_cases e : p = x
  · subst e; simp [hp]
  · rw [if_neg e, if_neg (fun h => e h.symm)]
theorem mid_free {r p : Nat} {num : List Nat} (h : Mid L n r p num) (hp : p < n) (hr : 1 ≤ r) (h0 : gr num p = 0) (hf : ∀ q, hs L q p → gr num q ≠ 0 ∧ gr num q ≠ r) : Mid L n r (p + 1) (num.set p r) := by
  have hl : p < num.length := by rw [h.len]; exact hp
  have hself : ¬ hs L p p := fun hpp => (hf p hpp).1 h0
  refine ⟨by rw [List.length_set, h.len], ?_, ?_, ?_, ?_, ?_⟩
  · intro x
    rw [gr_set hl]
    split
    · exact Nat.le_refl _
    · exact h.le x
  · intro x hx
    rw [gr_set hl, if_neg (by omega)]
    exact h.lt x (by omega)
  · intro q x hqx hx
    rw [gr_set hl] at hx
    rw [gr_set hl, gr_set hl]
    by_cases ex : x = p
    · subst ex
      have hq : q ≠ x := fun e => hself (e ▸ hqx)
      rw [if_pos rfl, if_neg hq]
      have h1 := hf q hqx
      have h2 := h.le q
      exact ⟨h1.1, by omega⟩
    · rw [if_neg ex] at hx ⊢
      have h1 := h.up q x hqx hx
      have hq : q ≠ p := fun e => h1.1 (e ▸ h0)
      rw [if_neg hq]
      exact h1
  · intro x hx hor
    by_cases ex : x = p
    · subst ex
      exact h.old x hx (Or.inl h0)
    · rw [gr_set hl, if_neg ex] at hor
      exact h.old x hx hor
  · intro x hx hx0
    rw [gr_set hl] at hx0
    split at hx0
    · omega
    · exact h.new x (by omega) hx0
theorem mid_stuck {r p : Nat} {num : List Nat} (ha : WF n L) (h : Mid L n r p num) (hr : 1 ≤ r) (hs0 : gr num p ≠ 0 ∨ ∃ q, hs L q p ∧ (gr num q = 0 ∨ gr num q = r)) : Mid L n r (p + 1) num := by
  refine ⟨h.len, h.le, fun x hx => h.lt x (by omega), h.up, h.old, ?_⟩
  intro x hx hx0
  by_cases e : x = p
  · subst e
    rcases hs0 with h1 | ⟨q, h1, h2⟩
    · exact absurd hx0 h1
    · obtain ⟨r', rfl⟩ : ∃ r', r = r' + 1 := ⟨r - 1, by omega⟩
      exact ⟨q, h1, h.old q (by have := hs_left h1; rw [ha.len] at this; exact this) h2⟩
  · exact h.new x (by omega) hx0
theorem mid_end {num : List Nat} (ha : WF n L) (hac : ∀ p, ¬ TransGen (hs L) p p) (h : Mid L n (n + 1) 0 num) {q x : Nat} (hqx : hs L q x) : gr num q ≠ 0 ∧ gr num q < gr num x := by
  refine h.up q x hqx fun h0 => ?_
  have hx := ha.low _ _ hqx
  have := pathTo_short ha hac hx (h.old x hx (Or.inl h0))
  omega
end
end Go.Proofs.YtpflelkdkpabbaaDoor
