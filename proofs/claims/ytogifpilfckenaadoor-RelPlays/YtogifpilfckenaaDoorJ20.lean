/- The document's own answers and the program's have the same pairs. -/
import Derived.Test.YtogifpilfckenaaDoorJ17
import Derived.Test.YtogifpilfckenaaDoorJ19
import Derived.Test.YtogifpilfckenaaDoorJ18
import Derived.Test.YtogifpilfckenaaDoorJ08
namespace Go.Proofs.YtogifpilfckenaaDoor
open Go.RowKit Go.Shelf Sx Relation

/-- The table F and the rows L have the same pairs, of points below N. -/
def Same (N : Nat) (F : Nat → Nat → Bool) (L : List Nat) : Prop := ∀ p q, p < N → q < N → (F p q = true ↔ hs L p q)
section
variable {N : Nat} {F : Nat → Nat → Bool} {L : List Nat}
theorem same_plusN (h : Same N F L) (hl : L.length = N) (k : Nat) (hk : k ≤ N) : Same N (plusFn F k) (plusN L k) := by
  induction k with
  | zero => exact h
  | succ k ih =>
    intro p q hp hq
    have ih := ih (by omega)
    rw [plusFn_succ, Bool.or_eq_true, Bool.and_eq_true, plusN_step hl, ih p q hp hq, ih p k hp (by omega), ih k q (by omega) hq]
theorem same_plus (h : Same N F L) (hl : L.length = N) : Same N (plusFn F N) (plusL L) := by
  have := same_plusN h hl N (Nat.le_refl _)
  unfold plusL
  rw [hl]
  exact this

/-- One layer and the numbers of far. -/
theorem hit_pred (h : Same N F L) (hw : WF N L) {s i near x : Nat} (hx : x < N) (_hb : ∀ y, near.testBit y = true → y < N) (hn : ∀ y, y < N → (near.testBit y = true ↔ hit1 F N s i y = true)) : hitF F N s i x = true ↔ ∃ r, near.testBit r = true ∧ hs L x r := by
  unfold hitF
  rw [List.any_eq_true]
  constructor
  · rintro ⟨j, hj, h1⟩
    have hj : j < N := by simpa using hj
    rw [Bool.and_eq_true] at h1
    exact ⟨j, (hn j hj).2 h1.2, (h x j hx hj).1 h1.1⟩
  · rintro ⟨r, h1, h2⟩
    have hr := hw.low _ _ h2
    refine ⟨r, by simpa using hr, ?_⟩
    rw [Bool.and_eq_true]
    exact ⟨(h x r hx hr).2 h2, (hn r hr).1 h1⟩
theorem far_of_hit {s i x : Nat} (h1 : farFn F N s i x < 0) (h2 : hitF F N s i x = true) : farFn F N s (i + 1) x = ((i + 1 : Nat) : Int) := by
  rw [farFn_succ, if_pos h1, if_pos h2]
theorem far_of_miss {s i x : Nat} (h1 : farFn F N s i x < 0) (h2 : hitF F N s i x = false) : farFn F N s (i + 1) x < 0 := by
  rw [farFn_succ, if_pos h1, h2, if_neg (by simp)]
  omega
theorem far_of_had {s i x : Nat} (h1 : ¬ farFn F N s i x < 0) : farFn F N s (i + 1) x = farFn F N s i x := by
  rw [farFn_succ, if_neg h1]

/-- From round i on: the layers that are still to come are the points that far numbers, round by round. -/
theorem lay_far (hn : N ≤ 256) (h : Same N F L) (hw : WF N L) {s : Nat} (hsN : s < N) : ∀ (ly : List Nat) (i seen near : Nat), LayOK L (invL L) s seen near ly → (∀ y, near.testBit y = true → y < N) →
    (∀ x, x < N → (near.testBit x = true ↔ hit1 F N s i x = true)) → (∀ x, x < N → ((seen ||| near).testBit x = true ↔ (x = s ∨ ¬ farFn F N s i x < 0))) → farFn F N s i s < 0 →
    ∀ j, j < ly.length → (∀ x, x < N → ((gr ly j).testBit x = true ↔ hit1 F N s (i + j) x = true)) ∧ farFn F N s (i + j) s < 0 ∧ (gr L s &&& gr ly j ≠ 0 → farFn F N s (i + j + 1) s = ((i + j + 1 : Nat) : Int))
  | [], _, _, _, _, _, _, _, _, j, hj => by simp at hj
  | x :: rest, i, seen, near, hl, hb, h1, h2, h3, j, hj => by
    obtain ⟨hne, rfl, hgo, hstop⟩ : near ≠ 0 ∧ x = near ∧ (gr L s &&& near = 0 → LayOK L (invL L) s (seen ||| near) (ldiff (joinRows (invL L) (bitsOf near)) (seen ||| near)) rest) ∧ (gr L s &&& near ≠ 0 → rest = []) := hl
    have hmeet : gr L s &&& x ≠ 0 → hitF F N s i s = true := by
      intro hm
      obtain ⟨q, q1, q2⟩ := and_ne hm
      exact (hit_pred h hw hsN hb h1).2 ⟨q, q2, q1⟩
    cases j with
    | zero => exact ⟨h1, h3, fun hm => far_of_hit h3 (hmeet hm)⟩
    | succ j =>
      by_cases hm : gr L s &&& x = 0
      · have hmiss : hitF F N s i s = false := by
          rw [Bool.eq_false_iff]
          intro hh
          obtain ⟨r, r1, r2⟩ := (hit_pred h hw hsN hb h1).1 hh
          exact and_zero hm r2 r1
        have hnear : ∀ y, (ldiff (joinRows (invL L) (bitsOf x)) (seen ||| x)).testBit y = true ↔ (∃ r, x.testBit r = true ∧ hs L y r) ∧ ¬ (seen ||| x).testBit y = true := by
          intro y
          rw [testBit_ldiff, Bool.and_eq_true, Bool.not_eq_true', pred_bits hn hw, Bool.not_eq_true]
        have hh1 : ∀ y, hit1 F N s (i + 1) y = true ↔ farFn F N s (i + 1) y = ((i + 1 : Nat) : Int) := by
          intro y
          unfold hit1
          rw [if_neg (by omega), beq_iff_eq]
        have hb' : ∀ y, (ldiff (joinRows (invL L) (bitsOf x)) (seen ||| x)).testBit y = true → y < N := by
          intro y hy
          obtain ⟨⟨r, _, r2⟩, _⟩ := (hnear y).1 hy
          have := hs_left r2
          rw [hw.len] at this
          exact this
        have h1' : ∀ y, y < N → ((ldiff (joinRows (invL L) (bitsOf x)) (seen ||| x)).testBit y = true ↔ hit1 F N s (i + 1) y = true) := by
          intro y hy
          rw [hnear, ← hit_pred h hw hy hb h1, h2 y hy, hh1]
          constructor
          · rintro ⟨a1, a2⟩
            have a3 : farFn F N s i y < 0 := Classical.byContradiction fun hc => a2 (Or.inr hc)
            exact far_of_hit a3 a1
          · intro a1
            by_cases a2 : farFn F N s i y < 0
            · cases a3 : hitF F N s i y
              · have := far_of_miss a2 a3
                omega
              · refine ⟨rfl, ?_⟩
                rintro (rfl | a4)
                · rw [hmiss] at a3; cases a3
                · exact a4 a2
            · rw [far_of_had a2] at a1
              have := (farFn_le F N s i y).2
              omega
        have h2' : ∀ y, y < N → (((seen ||| x) ||| ldiff (joinRows (invL L) (bitsOf x)) (seen ||| x)).testBit y = true ↔ (y = s ∨ ¬ farFn F N s (i + 1) y < 0)) := by
          intro y hy
          rw [or_bit, h1' y hy, hh1, h2 y hy]
          constructor
          · rintro ((rfl | a1) | a1)
            · exact Or.inl rfl
            · exact Or.inr (by rw [far_of_had a1]; exact a1)
            · exact Or.inr (by omega)
          · rintro (rfl | a1)
            · exact Or.inl (Or.inl rfl)
            · by_cases a2 : farFn F N s i y < 0
              · cases a3 : hitF F N s i y
                · exact absurd (far_of_miss a2 a3) a1
                · exact Or.inr (far_of_hit a2 a3)
              · exact Or.inl (Or.inr a2)
        have := lay_far hn h hw hsN rest (i + 1) _ _ (hgo hm) hb' h1' h2' (far_of_miss h3 hmiss) j (by simpa using hj)
        rw [show i + 1 + j = i + (j + 1) by omega] at this
        exact this
      · have e := hstop hm
        subst e
        simp at hj
end
end Go.Proofs.YtogifpilfckenaaDoor
/- The document's cycle and the program's are one. -/
namespace Go.Proofs.YtogifpilfckenaaDoor
open Go.RowKit Go.Shelf Sx Relation
section
variable {N : Nat} {F : Nat → Nat → Bool} {L : List Nat}
theorem chain_one {p : Nat} : ∀ (n a : Nat) (l l' : List Nat), ChainR F N p a n l → ChainR F N p a n l' → l = l'
  | 0, _, l, l', h, h' => by
    have e : l = [] := h
    have e' : l' = [] := h'
    rw [e, e']
  | n + 1, a, l, l', h, h' => by
    obtain ⟨q, m, e, h1, h2, h3, h4, h5⟩ : ∃ q l', l = q :: l' ∧ q < N ∧ F a q = true ∧ farFn F N p N q = ((n + 1 : Nat) : Int) ∧ (∀ x, x < q → ¬ (F a x = true ∧ farFn F N p N x = ((n + 1 : Nat) : Int))) ∧ ChainR F N p q n l' := h
    obtain ⟨q', m', e', h1', h2', h3', h4', h5'⟩ : ∃ q l2, l' = q :: l2 ∧ q < N ∧ F a q = true ∧ farFn F N p N q = ((n + 1 : Nat) : Int) ∧ (∀ x, x < q → ¬ (F a x = true ∧ farFn F N p N x = ((n + 1 : Nat) : Int))) ∧ ChainR F N p q n l2 := h'
    have eq : q = q' := by
      rcases Nat.lt_trichotomy q q' with hl | hl | hl
      · exact absurd ⟨h2, h3⟩ (h4' q hl)
      · exact hl
      · exact absurd ⟨h2', h3'⟩ (h4 q' hl)
    subst eq
    rw [e, e', chain_one n q m m' h5 h5']

theorem cyc_cons {last X q : Nat} {tl rest : List Nat} (hb : bitsOf (gr L last &&& X) = q :: tl) : cycF L last (X :: rest) = q :: cycF L q rest := by
  show (match bitsOf (gr L last &&& X) with
    | [] => cycF L last rest
    | q :: _ => q :: cycF L q rest) = _
  rw [hb]
theorem cyc_least {last X : Nat} (hw : WF N L) (hN : N ≤ 256) (h : ∃ q, hs L last q ∧ X.testBit q = true) : ∃ q tl, bitsOf (gr L last &&& X) = q :: tl ∧ hs L last q ∧ X.testBit q = true ∧ ∀ x, x < q → ¬ (hs L last x ∧ X.testBit x = true) := by
  obtain ⟨q0, h1, h2⟩ := h
  have hmem : ∀ x, hs L last x → X.testBit x = true → x ∈ bitsOf (gr L last &&& X) := fun x a1 a2 => mem_bitsOf.2 ⟨by have := hw.low _ _ a1; omega, by rw [Nat.testBit_and, Bool.and_eq_true]; exact ⟨a1, a2⟩⟩
  have hm0 := hmem q0 h1 h2
  have hs := bitsOf_sorted (gr L last &&& X)
  cases hb : bitsOf (gr L last &&& X) with
  | nil => rw [hb] at hm0; cases hm0
  | cons q tl =>
    rw [hb] at hs
    have hq : q ∈ bitsOf (gr L last &&& X) := by rw [hb]; simp
    have hq2 := (mem_bitsOf.1 hq).2
    rw [Nat.testBit_and, Bool.and_eq_true] at hq2
    refine ⟨q, tl, rfl, hq2.1, hq2.2, ?_⟩
    rintro x hx ⟨a1, a2⟩
    have := hmem x a1 a2
    rw [hb] at this
    rcases List.mem_cons.1 this with rfl | h5
    · omega
    · have := (List.pairwise_cons.1 hs).1 x h5
      omega
theorem cyc_len (hw : WF N L) (hN : N ≤ 256) {seen near : Nat} {ly : List Nat} (hp : LayP L seen near ly) : ∀ i, i < ly.length → ∀ last, (∃ q, hs L last q ∧ (gr ly i).testBit q = true) → (cycF L last (remL ly i)).length = i := by
  intro i
  induction i with
  | zero => intro _ last _; rw [remL_zero]; rfl
  | succ i ih =>
    intro hi last h
    obtain ⟨q, tl, hb, h1, h2, _⟩ := cyc_least hw hN h
    rw [remL_succ hi, cyc_cons hb, List.length_cons, ih (by omega) q (hp.down i hi q h2)]
theorem cyc_chain (hS : Same N F L) (hw : WF N L) (hN : N ≤ 256) {s seen near : Nat} {ly : List Nat} (hp : LayP L seen near ly)
    (hT : ∀ m, 1 ≤ m → m < ly.length → ∀ x, x < N → ((gr ly m).testBit x = true ↔ farFn F N s N x = ((m : Nat) : Int))) :
    ∀ i, i < ly.length → ∀ last, last < N → (∃ q, hs L last q ∧ (gr ly i).testBit q = true) → ChainR F N s last i (cycF L last (remL ly i)) := by
  intro i
  induction i with
  | zero => intro _ last _ _; rw [remL_zero]; rfl
  | succ i ih =>
    intro hi last hl h
    obtain ⟨q, tl, hb, h1, h2, h3⟩ := cyc_least hw hN h
    have hq := hw.low _ _ h1
    rw [remL_succ hi, cyc_cons hb]
    refine ⟨q, _, rfl, hq, (hS last q hl hq).2 h1, (hT (i + 1) (by omega) hi q hq).1 h2, ?_, ih (by omega) q hq (hp.down i hi q h2)⟩
    rintro x hx ⟨a1, a2⟩
    exact h3 x hx ⟨(hS last x hl (by omega)).1 a1, (hT (i + 1) (by omega) hi x (by omega)).2 a2⟩

theorem far_iff {s i x : Nat} (h1 : 1 ≤ i) (h2 : i ≤ N) : farFn F N s N x = ((i : Nat) : Int) ↔ farFn F N s i x = ((i : Nat) : Int) := by
  constructor
  · intro h
    have key : ∀ r, i ≤ r → farFn F N s r x = ((i : Nat) : Int) → farFn F N s i x = ((i : Nat) : Int) := by
      intro r
      induction r with
      | zero => intro h3; omega
      | succ r ih =>
        intro h3 h4
        by_cases e : i = r + 1
        · subst e; exact h4
        · rw [farFn_succ] at h4
          split at h4
          · split at h4 <;> omega
          · exact ih (by omega) h4
    exact key N h2 h
  · exact far_stays h2

theorem cyc_same (hN : N ≤ 256) (hS : Same N F L) (hw : WF N L) {out out' : List Nat} (h : CycOK L out) (h' : RCyc F N out') : out' = out := by
  have hP := same_plus hS hw.len
  have hloop : ∀ p, p < N → (plusFn F N p p = true ↔ p ∈ bitsOf (loopsL (plusL L))) := by
    intro p hp
    rw [hP p p hp hp, loops_mem hN hw, hs_plus hw]
  rcases h with ⟨h1, h2⟩ | ⟨s, tl, ly, h1, h2, h3⟩
  · rcases h' with ⟨_, h'⟩ | ⟨p, l, a1, a2, _⟩
    · rw [h', h2]
    · have := (hloop p a1).1 a2
      rw [h1] at this
      cases this
  · have hmem : s ∈ bitsOf (loopsL (plusL L)) := by rw [h1]; simp
    have hc := (loops_mem hN hw s).1 hmem
    have hsN := trans_low hw hc
    have hout := cyc_facts hN hw (out := out) (.inr ⟨s, tl, ly, h1, h2, h3⟩)
    have hleast : ∀ q, q ∈ bitsOf (loopsL (plusL L)) → s ≤ q := by
      intro q h5
      have h6 := bitsOf_sorted (loopsL (plusL L))
      rw [h1] at h5 h6
      rcases List.mem_cons.1 h5 with rfl | h5
      · exact Nat.le_refl _
      · exact Nat.le_of_lt ((List.pairwise_cons.1 h6).1 q h5)
    have hbit : ∀ q, (setB 0 s true).testBit q = true ↔ q = s := by
      intro q
      rw [testBit_setB]
      by_cases e : q = s
      · simp [e]
      · simp [e]
    obtain ⟨k, hk1, hk2⟩ := lay_meets hN hw hc ly 0 _ h2 (or_bit.2 (Or.inr ((hbit s).2 rfl))) (fun x y hx => by simp at hx) (by simp)
    have hp := lay_props hN hw s ly 0 _ h2 (fun q _ h => by simp at h)
    obtain ⟨q0, hq1, hq2⟩ := and_ne hk2
    have hk : ly.length - 1 = k := by omega
    rw [hk] at h3
    have hlen : k + 1 ≤ N := by
      have e := cyc_len hw hN hp k (by omega) s ⟨q0, hq1, hq2⟩
      rcases hout with ⟨e2, _⟩ | ⟨s2, l2, e2, _, e3, e4, _⟩
      · rw [h3] at e2; cases e2
      · have := nodup_le N _ e3 (fun x hx => (e4 x hx).2)
        rw [← e2, h3, List.length_cons, e] at this
        exact this
    have hfar := lay_far hN hS hw hsN ly 0 0 _ h2 (fun y hy => by rw [hbit] at hy; omega) (fun x hx => by rw [hbit]; unfold hit1; simp) (fun x hx => by rw [Nat.zero_or, hbit]; unfold farFn; simp) (by unfold farFn; decide)
    have hT : ∀ m, 1 ≤ m → m < ly.length → ∀ x, x < N → ((gr ly m).testBit x = true ↔ farFn F N s N x = ((m : Nat) : Int)) := by
      intro m a1 a2 x hx
      rw [(hfar m a2).1 x hx, far_iff a1 (by omega)]
      unfold hit1
      rw [Nat.zero_add, if_neg (by omega), beq_iff_eq]
    have hTs : farFn F N s N s = ((k + 1 : Nat) : Int) := by
      have := (hfar k (by omega)).2.2 hk2
      rw [Nat.zero_add] at this
      exact (far_iff (by omega) hlen).2 this
    have hch := cyc_chain hS hw hN hp hT k (by omega) s hsN ⟨q0, hq1, hq2⟩
    rcases h' with ⟨a1, _⟩ | ⟨p, l, a1, a2, a3, a4, a5⟩
    · have := (hloop s hsN).2 hmem
      rw [a1 s hsN] at this
      cases this
    · have e : p = s := by
        have b1 := hleast p ((hloop p a1).1 a2)
        by_cases hlt : s < p
        · have := (hloop s hsN).2 hmem
          rw [a3 s hlt] at this
          cases this
        · omega
      subst e
      rw [hTs, show (((k + 1 : Nat) : Int) - 1).toNat = k by omega] at a5
      rw [a4, h3, chain_one k p _ _ a5 hch]
end
end Go.Proofs.YtogifpilfckenaaDoor
/- The contracts of the statements' example and lives. -/
namespace Go.Proofs.YtogifpilfckenaaDoor
open Go.RowKit Go.Shelf Sx

def exL : List (Int × Int) := [(0, 1), (1, 2), (2, 0), (2, 3), (9, 1)]
def exR : List Nat := [2, 4, 9, 0]
theorem exR_eq : ofL 4 exL = exR := by decide +kernel

set_option maxHeartbeats 1000000 in
theorem example_calls (w : World) : Calls Tryd.prog 7 #[] w fun e w' => ∃ b c, e = .returned (pv b) ∧ Made w w' b c exR := by
  have hP : PairsAt (w.alloc (.cells #[.int .i64 0, .int .i64 1, .int .i64 1, .int .i64 2, .int .i64 2, .int .i64 0, .int .i64 2, .int .i64 3, .int .i64 9, .int .i64 1] 29)) w.heap.size 0 exL := by
    have hk := Blk.new w 29 #[.int .i64 0, .int .i64 1, .int .i64 1, .int .i64 2, .int .i64 2, .int .i64 0, .int .i64 2, .int .i64 3, .int .i64 9, .int .i64 1]
    refine ⟨by simp, ?_, ?_⟩
    all_goals
      intro i x hx
      match i with
      | 0 => simp [exL] at hx; subst hx; exact hk.cell rfl
      | 1 => simp [exL] at hx; subst hx; exact hk.cell rfl
      | 2 => simp [exL] at hx; subst hx; exact hk.cell rfl
      | 3 => simp [exL] at hx; subst hx; exact hk.cell rfl
      | 4 => simp [exL] at hx; subst hx; exact hk.cell rfl
      | i + 5 => simp [exL] at hx
  have HP := hid_of hP
  clear hP
  have HC := hid_of (Of_calls 4 w.heap.size 0 5 exL _ HP.out (by decide))
  rw [exR_eq] at HC
  go_enter Tryd.func7, Tryd.ntmps7
  go_wp2_with fail
  refine HC.out.mono ?_
  rintro e w1 ⟨b, c, rfl, hM⟩
  go_wp2_with fail
  go_ret
  refine ⟨b, c, rfl, hM.rel, ?_, ?_, ?_⟩
  · have := hM.hb; simp at this; omega
  · have := hM.hc; simp at this; omega
  · exact ((Below.refl _ w).alloc (Nat.le_refl _) _).trans (hM.below.mono (by simp))

def layF (L Bk : List Nat) (start : Nat) : Nat → Nat → Nat → List Nat
  | 0, _, _ => []
  | f + 1, seen, near => if near = 0 then [] else near :: (if gr L start &&& near = 0 then layF L Bk start f (seen ||| near) (ldiff (joinRows Bk (bitsOf near)) (seen ||| near)) else [])
theorem lay_take (L Bk : List Nat) (start : Nat) : ∀ (f seen near : Nat) (ly : List Nat), LayOK L Bk start seen near ly → ly.take f = layF L Bk start f seen near
  | 0, _, _, _, _ => by simp [layF]
  | f + 1, seen, near, [], h => by
    have h : near = 0 := h
    simp [layF, h]
  | f + 1, seen, near, x :: rest, h => by
    obtain ⟨h1, h2, h3, h4⟩ := h
    simp only [layF, if_neg h1, List.take_succ_cons, h2]
    by_cases hh : gr L start &&& near = 0
    · rw [if_pos hh, lay_take L Bk start f _ _ rest (h3 hh)]
    · rw [if_neg hh, h4 hh]; simp
theorem lay_is {L Bk : List Nat} {start f seen near : Nat} {ly : List Nat} (h : LayOK L Bk start seen near ly) (hl : (layF L Bk start f seen near).length < f) : ly = layF L Bk start f seen near := by
  have ht := lay_take L Bk start f seen near ly h
  rw [← ht] at hl ⊢
  rw [List.length_take] at hl
  rw [List.take_of_length_le (by omega)]
set_option maxRecDepth 100000 in
theorem cyc_ex {out : List Nat} (h : CycOK exR out) : out = [0, 1, 2] := by
  have hb : bitsOf (loopsL (plusL exR)) = [0, 1, 2] := by decide +kernel
  rcases h with ⟨e, _⟩ | ⟨s, tl, ly, e, hly, rfl⟩
  · rw [hb] at e; cases e
  · rw [hb] at e
    injection e with e1 e2
    subst e1
    have : ly = [1, 4, 2] := by
      have := lay_is (f := 5) hly (by decide +kernel)
      rw [this]; decide +kernel
    subst this
    decide +kernel

theorem ex_size : sizeL exR = 4 := by decide +kernel
theorem ex_has1 : hasP exR 2 0 = true := by decide +kernel
theorem ex_has2 : hasP exR 9 1 = false := by decide +kernel
theorem ex_psize : sizeL (plusL exR) = 12 := by decide +kernel
theorem ex_acyc : (loopsL (plusL exR) == 0) = false := by decide +kernel
theorem ex_irr : (loopsL exR == 0) = true := by decide +kernel
theorem ints_three (w : World) : IntsAt (w.alloc (.cells #[.int .i64 0, .int .i64 1, .int .i64 2] 3)) (.slice (some ⟨w.heap.size, 0, none⟩) 3 3) [0, 1, 2] := by
  have hk := Blk.new w 3 #[.int .i64 0, .int .i64 1, .int .i64 2]
  refine .inr ⟨w.heap.size, 0, 3, rfl, hk.lt, ?_⟩
  intro i x hx
  match i with
  | 0 => simp at hx; subst hx; exact hk.cell rfl
  | 1 => simp at hx; subst hx; exact hk.cell rfl
  | 2 => simp at hx; subst hx; exact hk.cell rfl
  | i + 3 => simp at hx

set_option maxRecDepth 100000 in
set_option maxHeartbeats 4000000 in
theorem lives_calls (w : World) (hT : Tab w) : Calls Tryd.prog 8 #[] w fun e w' => e = .returned (.bool true) ∧ Below w.heap.size w w' := by
  go_enter Tryd.func8, Tryd.ntmps8
  go_wp2_with fail
  refine (example_calls _).mono ?_
  rintro e w1 ⟨b, c, rfl, hM1⟩
  have hW1 := hM1.below
  have hR1 := hM1.rel
  clear hM1
  go_wp2_with fail
  refine (Copy_calls b c exR _ hR1).mono ?_
  rintro e w2 ⟨b2, c2, rfl, hM2⟩
  have hR2 := hM2.old hR1
  have hW2 := below_step hW1 hW1.size hM2.below
  clear hR1 hM2
  go_wp2_with fail
  refine (Inverse_calls b c exR _ hR2 (hT.step hW2)).mono ?_
  rintro e w3 ⟨b3, c3, rfl, hM3⟩
  have hR3 := hM3.old hR2
  have hW3 := below_step hW2 hW2.size hM3.below
  clear hR2 hM3
  go_wp2_with fail
  refine (Opt_calls b c exR _ hR3).mono ?_
  rintro e w4 ⟨b4, c4, rfl, hM4⟩
  have hR4 := hM4.old hR3
  have hW4 := below_step hW3 hW3.size hM4.below
  clear hR3 hM4
  go_wp2_with fail
  refine (Plus_calls b c exR _ hR4).mono ?_
  rintro e w5 ⟨b5, c5, rfl, hM5⟩
  have hR5 := hM5.old hR4
  have hW5 := below_step hW4 hW4.size hM5.below
  clear hR4 hM5
  go_wp2_with fail
  refine (Len_c b c exR _ hR5).mono ?_
  rintro e w6 ⟨rfl, rfl⟩
  go_wp2_with fail
  refine (Size_calls b c exR _ hR5).mono ?_
  rw [ex_size]
  rintro e w6 ⟨rfl, hB6⟩
  have hR6 := hR5.below hB6
  have hW6 := below_step hW5 hW5.size hB6
  clear hR5 hB6
  go_wp2_with fail
  refine (Has_calls b c exR 2 0 _ hR6).mono ?_
  rw [ex_has1]
  rintro e w7 ⟨rfl, hB7⟩
  have hR7 := hR6.below hB7
  have hW7 := below_step hW6 hW6.size hB7
  clear hR6 hB7
  go_wp2_with fail
  refine (Has_calls b c exR 9 1 _ hR7).mono ?_
  rw [ex_has2]
  rintro e w8 ⟨rfl, hB8⟩
  have hR8 := hR7.below hB8
  have hW8 := below_step hW7 hW7.size hB8
  clear hR7 hB8
  go_wp2_with fail
  refine (Cycle_calls b c exR _ hR8 (hT.step hW8)).mono ?_
  rintro e w9 ⟨v, out, rfl, hcy, hown, hB9⟩
  have hR9 := hR8.below hB9
  have hW9 := below_step hW8 hW8.size hB9
  obtain rfl := cyc_ex hcy
  have hia := owns_ints hown
  clear hR8 hB9 hcy hown
  go_wp2_with fail
  have hA : Below w9.heap.size w9 (w9.alloc (.cells #[.int .i64 0, .int .i64 1, .int .i64 2] 3)) := (Below.refl _ _).alloc (Nat.le_refl _) _
  refine (ints_calls v (.slice (some ⟨w9.heap.size, 0, none⟩) 3 3) [0, 1, 2] [0, 1, 2] _ (hia.below hA) (ints_three w9) (by decide) (by decide)).mono ?_
  rintro e w10 ⟨rfl, hB10⟩
  have hR10 := (hR9.below hA).below hB10
  have hW10 := below_step (below_step hW9 hW9.size hA) (Nat.le_trans hW9.size hA.size) hB10
  clear hR9 hB10 hA hia
  go_wp2_with fail
  refine (Plus_calls b c exR _ hR10).mono ?_
  rintro e w11 ⟨b11, c11, rfl, hM11⟩
  have hR11 := hM11.old hR10
  have hW11 := below_step hW10 hW10.size hM11.below
  have hP11 := hM11.rel
  clear hR10 hM11
  go_wp2_with fail
  refine (Size_calls b11 c11 (plusL exR) _ hP11).mono ?_
  rw [ex_psize]
  rintro e w12 ⟨rfl, hB12⟩
  have hR12 := hR11.below hB12
  have hW12 := below_step hW11 hW11.size hB12
  clear hR11 hB12
  go_wp2_with fail
  refine (Acyclic_calls b c exR _ hR12).mono ?_
  rw [ex_acyc]
  rintro e w13 ⟨rfl, hB13⟩
  have hR13 := hR12.below hB13
  have hW13 := below_step hW12 hW12.size hB13
  clear hR12 hB13
  go_wp2_with fail
  refine (Irr_calls b c exR _ hR13).mono ?_
  rw [ex_irr]
  rintro e w14 ⟨rfl, hB14⟩
  have hR14 := hR13.below hB14
  have hW14 := below_step hW13 hW13.size hB14
  clear hR13 hB14
  go_wp2_with fail
  go_ret
  exact ⟨rfl, hW14⟩
end Go.Proofs.YtogifpilfckenaaDoor
/- The contracts of package rel's Within, of Union of nothing and of two. -/
namespace Go.Proofs.YtogifpilfckenaaDoor
open Go.RowKit Go.Shelf Sx

set_option maxHeartbeats 1000000 in
theorem Union_nil (w : World) :
    Calls Tryd.prog 21 #[.slice none 0 0] w fun e w' => ∃ b c, e = .returned (pv b) ∧ Made w w' b c [] := by
  go_enter Tryd.func21, Tryd.ntmps21
  go_wp2_with fail
  go_loopw [3, 13] (fun n i wr => n = .int .i64 0 ∧ i = .int .i64 0 ∧ w = wr) (fun _ _ _ => 0)
  case atStart => exact ⟨rfl, rfl, rfl⟩
  case round =>
    obtain ⟨rfl, rfl, rfl⟩ := hrel
    go_wp2_with fail
    refine (New_c 0 (by omega) _).mono ?_
    rintro e w1 ⟨b, c, rfl, hM1⟩
    go_wp2_with fail
    go_loopw [26] (fun i wr => i = .int .i64 0 ∧ w1 = wr) (fun _ _ => 0)
    case atStart => exact ⟨rfl, rfl⟩
    case round =>
      obtain ⟨rfl, rfl⟩ := hrel
      go_wp2_with fail
      go_ret
      exact ⟨b, c, rfl, hM1⟩

theorem rels_two (w : World) (ba ca bb cb : Nat) (A B : List Nat) (ha : IsRel w ba ca A) (hb : IsRel w bb cb B) : RelsAt (w.alloc (.cells #[pv ba, pv bb] 22)) w.heap.size [(ba, ca, A), (bb, cb, B)] := by
  have hk := Blk.new w 22 #[pv ba, pv bb]
  refine ⟨?_, hk.lt, ?_⟩
  · intro i r hi
    match i with
    | 0 => simp at hi; subst hi; exact hk.cell rfl
    | 1 => simp at hi; subst hi; exact hk.cell rfl
    | i + 2 => simp at hi
  · intro i r hi
    match i with
    | 0 => simp at hi; subst hi; exact ha.alloc _
    | 1 => simp at hi; subst hi; exact hb.alloc _
    | i + 2 => simp at hi
/-- Union of two, behind the making of their list. -/
theorem Union_two (w : World) (ba ca bb cb : Nat) (A B : List Nat) (ha : IsRel w ba ca A) (hb : IsRel w bb cb B) :
    Calls Tryd.prog 21 #[.slice (some ⟨w.heap.size, 0, none⟩) 2 2] (w.alloc (.cells #[pv ba, pv bb] 22)) fun e w' => ∃ b c, e = .returned (pv b) ∧ Made w w' b c (unionL [A, B]) := by
  refine (Union_calls w.heap.size [(ba, ca, A), (bb, cb, B)] _ (rels_two w ba ca bb cb A B ha hb) (by simp)).mono ?_
  rintro e w1 ⟨b, c, rfl, hM⟩
  refine ⟨b, c, rfl, hM.rel, ?_, ?_, ?_⟩
  · have := hM.hb; simp at this; omega
  · have := hM.hc; simp at this; omega
  · exact ((Below.refl _ w).alloc (Nat.le_refl _) _).trans (hM.below.mono (by simp))

set_option maxHeartbeats 1000000 in
theorem Within_at (n : Nat) (ba ca bb cb : Nat) (A B : List Nat) (w : World) (ha : IsRel w ba ca A) (hb : IsRel w bb cb B) (Hn : Hid (sizeL (minusL A B) = n)) :
    Calls Tryd.prog 27 #[pv ba, pv bb] w fun e w' => e = .returned (.bool ((n : Int) == 0)) ∧ Below w.heap.size w w' := by
  go_enter Tryd.func27, Tryd.ntmps27
  go_wp2_with fail
  refine (Minus_calls ba ca bb cb A B _ ha hb).mono ?_
  rintro e w1 ⟨b, c, rfl, hM⟩
  go_wp2_with fail
  refine (Size_calls b c (minusL A B) _ hM.rel).mono ?_
  rw [Hn.out]
  rintro e w2 ⟨rfl, hB2⟩
  go_wp2_with fail
  go_ret
  exact ⟨rfl, below_step hM.below hM.below.size hB2⟩
theorem Within_calls (ba ca bb cb : Nat) (A B : List Nat) (w : World) (ha : IsRel w ba ca A) (hb : IsRel w bb cb B) :
    Calls Tryd.prog 27 #[pv ba, pv bb] w fun e w' => e = .returned (.bool (sizeL (minusL A B) == 0)) ∧ Below w.heap.size w w' := by
  refine (Within_at _ ba ca bb cb A B w ha hb (hid_of rfl)).mono ?_
  rintro e w1 ⟨rfl, hB⟩
  refine ⟨?_, hB⟩
  congr 2
  rw [Bool.eq_iff_iff]; simp
end Go.Proofs.YtogifpilfckenaaDoor
