/- The contracts of the statements' example and lives. -/
import Derived.Test.YtpflelkdkpabbaaDoorLawFns
import Derived.Test.YtpflelkdkpabbaaDoorOnesWalk
namespace Go.Proofs.YtpflelkdkpabbaaDoor
open Go.RowKit Go.Shelf Sx

def exL : List (Int × Int) := [(0, 1), (1, 2), (2, 0), (2, 3), (9, 1)]
def exR : List Nat := [2, 4, 9, 0]
theorem exR_eq : ofL 4 exL = exR := by decide +kernel

set_option maxHeartbeats 1000000 in
theorem example_calls (w : World) : Calls Tryd.prog 7 #[] w fun e w' => ∃ b c, e = .returned (pv b) ∧ Made w w' b c exR := by
  have hP : PairsAt (w.alloc (.cells #[.int .i64 0, .int .i64 1, .int .i64 1, .int .i64 2, .int .i64 2, .int .i64 0, .int .i64 2, .int .i64 3, .int .i64 9, .int .i64 1] 29)) w.heap.size 0 exL := by
    have hk := Blk.new w 29 #[.int .i64 0, .int .i64 1, .int .i64 1, .int .i64 2, .int .i64 2, .int .i64 0, .int .i64 2, .int .i64 3, .int .i64 9, .int .i64 1]
    refine ⟨by simp, ?_, ?_⟩
    all_goals
      intro i x hx
      match i with
      | 0 => simp [exL] at hx; subst hx; exact hk.cell rfl
      | 1 => simp [exL] at hx; subst hx; exact hk.cell rfl
      | 2 => simp [exL] at hx; subst hx; exact hk.cell rfl
      | 3 => simp [exL] at hx; subst hx; exact hk.cell rfl
      | 4 => simp [exL] at hx; subst hx; exact hk.cell rfl
      | i + 5 => simp [exL] at hx
  have HP := hid_of hP
  clear hP
  have HC := hid_of (Of_calls 4 w.heap.size 0 5 exL _ HP.out (by decide))
  rw [exR_eq] at HC
  go_enter Tryd.func7, Tryd.ntmps7
  go_wp2_with fail
  refine HC.out.mono ?_
  rintro e w1 ⟨b, c, rfl, hM⟩
  go_wp2_with fail
  go_ret
  refine ⟨b, c, rfl, hM.rel, ?_, ?_, ?_⟩
  · have := hM.hb; simp at this; omega
  · have := hM.hc; simp at this; omega
  · exact ((Below.refl _ w).alloc (Nat.le_refl _) _).trans (hM.below.mono (by simp))

def layF (L Bk : List Nat) (start : Nat) : Nat → Nat → Nat → List Nat
  | 0, _, _ => []
  | f + 1, seen, near => if near = 0 then [] else near :: (if gr L start &&& near = 0 then layF L Bk start f (seen ||| near) (ldiff (joinRows Bk (bitsOf near)) (seen ||| near)) else [])
theorem lay_take (L Bk : List Nat) (start : Nat) : ∀ (f seen near : Nat) (ly : List Nat), LayOK L Bk start seen near ly → ly.take f = layF L Bk start f seen near
  | 0, _, _, _, _ => by simp [layF]
  | f + 1, seen, near, [], h => by
    have h : near = 0 := h
    simp [layF, h]
  | f + 1, seen, near, x :: rest, h => by
    obtain ⟨h1, h2, h3, h4⟩ := h
    simp only [layF, if_neg h1, List.take_succ_cons, h2]
    by_cases hh : gr L start &&& near = 0
    · rw [if_pos hh, lay_take L Bk start f _ _ rest (h3 hh)]
    · rw [if_neg hh, h4 hh]; simp
theorem lay_is {L Bk : List Nat} {start f seen near : Nat} {ly : List Nat} (h : LayOK L Bk start seen near ly) (hl : (layF L Bk start f seen near).length < f) : ly = layF L Bk start f seen near := by
  have ht := lay_take L Bk start f seen near ly h
  rw [← ht] at hl ⊢
  rw [List.length_take] at hl
  rw [List.take_of_length_le (by omega)]
set_option maxRecDepth 100000 in
theorem cyc_ex {out : List Nat} (h : CycOK exR out) : out = [0, 1, 2] := by
  have hb : bitsOf (loopsL (plusL exR)) = [0, 1, 2] := by decide +kernel
  rcases h with ⟨e, _⟩ | ⟨s, tl, ly, e, hly, rfl⟩
  · rw [hb] at e; cases e
  · rw [hb] at e
    injection e with e1 e2
    subst e1
    have : ly = [1, 4, 2] := by
      have := lay_is (f := 5) hly (by decide +kernel)
      rw [this]; decide +kernel
    subst this
    decide +kernel

theorem ex_size : sizeL exR = 4 := by decide +kernel
theorem ex_has1 : hasP exR 2 0 = true := by decide +kernel
theorem ex_has2 : hasP exR 9 1 = false := by decide +kernel
theorem ex_psize : sizeL (plusL exR) = 12 := by decide +kernel
theorem ex_acyc : (loopsL (plusL exR) == 0) = false := by decide +kernel
theorem ex_irr : (loopsL exR == 0) = true := by decide +kernel
theorem ints_three (w : World) : IntsAt (w.alloc (.cells #[.int .i64 0, .int .i64 1, .int .i64 2] 3)) (.slice (some ⟨w.heap.size, 0, none⟩) 3 3) [0, 1, 2] := by
  have hk := Blk.new w 3 #[.int .i64 0, .int .i64 1, .int .i64 2]
  refine .inr ⟨w.heap.size, 0, 3, rfl, hk.lt, ?_⟩
  intro i x hx
  match i with
  | 0 => simp at hx; subst hx; exact hk.cell rfl
  | 1 => simp at hx; subst hx; exact hk.cell rfl
  | 2 => simp at hx; subst hx; exact hk.cell rfl
  | i + 3 => simp at hx

set_option maxRecDepth 100000 in
set_option maxHeartbeats 4000000 in
theorem lives_calls (w : World) (hT : Tab w) : Calls Tryd.prog 8 #[] w fun e w' => e = .returned (.bool true) ∧ Below w.heap.size w w' := by
  go_enter Tryd.func8, Tryd.ntmps8
  go_wp2_with fail
  refine (example_calls _).mono ?_
  rintro e w1 ⟨b, c, rfl, hM1⟩
  have hW1 := hM1.below
  have hR1 := hM1.rel
  clear hM1
  go_wp2_with fail
  refine (Copy_calls b c exR _ hR1).mono ?_
  rintro e w2 ⟨b2, c2, rfl, hM2⟩
  have hR2 := hM2.old hR1
  have hW2 := below_step hW1 hW1.size hM2.below
  clear hR1 hM2
  go_wp2_with fail
  refine (Inverse_calls b c exR _ hR2 (hT.step hW2)).mono ?_
  rintro e w3 ⟨b3, c3, rfl, hM3⟩
  have hR3 := hM3.old hR2
  have hW3 := below_step hW2 hW2.size hM3.below
  clear hR2 hM3
  go_wp2_with fail
  refine (Opt_calls b c exR _ hR3).mono ?_
  rintro e w4 ⟨b4, c4, rfl, hM4⟩
  have hR4 := hM4.old hR3
  have hW4 := below_step hW3 hW3.size hM4.below
  clear hR3 hM4
  go_wp2_with fail
  refine (Plus_calls b c exR _ hR4).mono ?_
  rintro e w5 ⟨b5, c5, rfl, hM5⟩
  have hR5 := hM5.old hR4
  have hW5 := below_step hW4 hW4.size hM5.below
  clear hR4 hM5
  go_wp2_with fail
  refine (Len_c b c exR _ hR5).mono ?_
  rintro e w6 ⟨rfl, rfl⟩
  go_wp2_with fail
  refine (Size_calls b c exR _ hR5).mono ?_
  rw [ex_size]
  rintro e w6 ⟨rfl, hB6⟩
  have hR6 := hR5.below hB6
  have hW6 := below_step hW5 hW5.size hB6
  clear hR5 hB6
  go_wp2_with fail
  refine (Has_calls b c exR 2 0 _ hR6).mono ?_
  rw [ex_has1]
  rintro e w7 ⟨rfl, hB7⟩
  have hR7 := hR6.below hB7
  have hW7 := below_step hW6 hW6.size hB7
  clear hR6 hB7
  go_wp2_with fail
  refine (Has_calls b c exR 9 1 _ hR7).mono ?_
  rw [ex_has2]
  rintro e w8 ⟨rfl, hB8⟩
  have hR8 := hR7.below hB8
  have hW8 := below_step hW7 hW7.size hB8
  clear hR7 hB8
  go_wp2_with fail
  refine (Cycle_calls b c exR _ hR8 (hT.step hW8)).mono ?_
  rintro e w9 ⟨v, out, rfl, hcy, hown, hB9⟩
  have hR9 := hR8.below hB9
  have hW9 := below_step hW8 hW8.size hB9
  obtain rfl := cyc_ex hcy
  have hia := owns_ints hown
  clear hR8 hB9 hcy hown
  go_wp2_with fail
  have hA : Below w9.heap.size w9 (w9.alloc (.cells #[.int .i64 0, .int .i64 1, .int .i64 2] 3)) := (Below.refl _ _).alloc (Nat.le_refl _) _
  refine (ints_calls v (.slice (some ⟨w9.heap.size, 0, none⟩) 3 3) [0, 1, 2] [0, 1, 2] _ (hia.below hA) (ints_three w9) (by decide) (by decide)).mono ?_
  rintro e w10 ⟨rfl, hB10⟩
  have hR10 := (hR9.below hA).below hB10
  have hW10 := below_step (below_step hW9 hW9.size hA) (Nat.le_trans hW9.size hA.size) hB10
  clear hR9 hB10 hA hia
  go_wp2_with fail
  refine (Plus_calls b c exR _ hR10).mono ?_
  rintro e w11 ⟨b11, c11, rfl, hM11⟩
  have hR11 := hM11.old hR10
  have hW11 := below_step hW10 hW10.size hM11.below
  have hP11 := hM11.rel
  clear hR10 hM11
  go_wp2_with fail
  refine (Size_calls b11 c11 (plusL exR) _ hP11).mono ?_
  rw [ex_psize]
  rintro e w12 ⟨rfl, hB12⟩
  have hR12 := hR11.below hB12
  have hW12 := below_step hW11 hW11.size hB12
  clear hR11 hB12
  go_wp2_with fail
  refine (Acyclic_calls b c exR _ hR12).mono ?_
  rw [ex_acyc]
  rintro e w13 ⟨rfl, hB13⟩
  have hR13 := hR12.below hB13
  have hW13 := below_step hW12 hW12.size hB13
  clear hR12 hB13
  go_wp2_with fail
  refine (Irr_calls b c exR _ hR13).mono ?_
  rw [ex_irr]
  rintro e w14 ⟨rfl, hB14⟩
  have hR14 := hR13.below hB14
  have hW14 := below_step hW13 hW13.size hB14
  clear hR13 hB14
  go_wp2_with fail
  go_ret
  exact ⟨rfl, hW14⟩
end Go.Proofs.YtpflelkdkpabbaaDoor
