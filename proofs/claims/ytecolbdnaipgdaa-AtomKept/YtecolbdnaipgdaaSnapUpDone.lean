/- An Update done alone. -/
import Derived.Test.YtecolbdnaipgdaaSnapUpAll
namespace Go.Proofs.Ytecolbdnaipgdaa
open Go.RowKit

theorem up_alone (n T UP LK OWN S R K MV r i : Nat) (v : Int) (hi : i < r) (hr : r ≤ 16) (nR : n ≤ R) (regs : List (Option Addr)) (f : Nat → Int) (w : World) (h : UpRun w n T UP LK OWN S R K MV r i 0 v false 0 regs f) :
    Calls Try.prog 7 #[pv T, .int .i64 100] w fun e w' => (∃ v, e = .returned v) ∧ UpDone w w' T OWN S R K r i v regs f ∧ Kp n 0 [T, LK, OWN, R] w w' := by
  have hr0 : 0 < r := by omega
  have hTB := h.task
  have nT := h.nT
  have nL := h.nL
  have nO := h.nO
  have key := alone_calls T 100 (2 * r + 1) (by omega) (by omega) (fun k w' => (if k < 2 * r then UpRun w' n T UP LK OWN S R K MV r i (pos r k) v (sec r k) ((k : Nat) : Int) regs f else if k = 2 * r then UpLast w' n T UP LK OWN S R K r i v ((k : Nat) : Int) regs f else UpDone w w' T OWN S R K r i v regs f) ∧ Kp n 0 [T, LK, OWN, R] w w') w ?_ ?_ ?_ ?_
  · refine Calls.mono key ?_
    rintro e w' ⟨w1, ⟨hP, hk⟩, hB, todo, st, O, n', ok, x, y, z, _, _, rfl⟩
    rw [if_neg (by omega), if_neg (by omega)] at hP
    obtain ⟨⟨O2, st2, a1, a2, a3⟩, hS⟩ := hP
    exact ⟨⟨_, rfl⟩, ⟨⟨O2, st2, a1.of_below hB, a2.of_below hB, a3⟩, hS.moved (fun b t cs hb _ => hb.of_below hB)⟩, hk.trans (Kp.of_below hB (by have := hk.below.size; have := hTB.lt; omega))⟩
  · rw [if_pos (by omega), show pos r 0 = 0 by unfold pos; rw [if_pos hr0], show sec r 0 = false by unfold sec; exact decide_eq_false (by omega)]
    exact ⟨h, Kp.refl _ _ _ _⟩
  · intro k w' hk hP
    by_cases h1 : k < 2 * r
    · rw [if_pos h1] at hP
      exact ⟨_, _, hP.1.task⟩
    · rw [if_neg h1, if_pos (by omega)] at hP
      exact ⟨_, _, hP.1.task⟩
  · intro k w' hk hP
    obtain ⟨hP, hkp⟩ := hP
    by_cases h1 : k < 2 * r
    · rw [if_pos h1] at hP
      by_cases hlast : k + 1 < 2 * r
      · refine (step_up_goes n T UP LK OWN S R K MV r i (pos r k) (pos r (k + 1)) v (sec r k) (sec r (k + 1)) (pos_next hlast) (sec_next hlast) (pos_lt h1) hr (pos_mid hlast) nR _ _ (wrap_small k (by omega)) regs f w' hP).mono ?_
        rintro e w2 ⟨rfl, hr2, hk2⟩
        refine ⟨_, rfl, ?_⟩
        rw [if_pos hlast]
        exact ⟨hr2, hkp.trans hk2⟩
      · obtain rfl : k = 2 * r - 1 := by omega
        rw [show pos r (2 * r - 1) = r - 1 by unfold pos; rw [if_neg (by omega)]; omega, show sec r (2 * r - 1) = true by unfold sec; exact decide_eq_true (by omega)] at hP
        refine (step_up_ends n T UP LK OWN S R K MV r i v hr0 hr nR _ _ (wrap_small _ (by omega)) regs f w' hP).mono ?_
        rintro e w2 ⟨rfl, hl, hk2⟩
        refine ⟨_, rfl, ?_⟩
        rw [if_neg (by omega), if_pos (by omega)]
        exact ⟨hl, hkp.trans hk2⟩
    · obtain rfl : k = 2 * r := by omega
      rw [if_neg h1, if_pos rfl] at hP
      refine (step_up_store n T UP LK OWN S R K r i hi v nR nL nO _ _ (wrap_small _ (by omega)) regs f w' hP).mono ?_
      rintro e w2 ⟨rfl, ⟨⟨O, st, a1, a2, a3⟩, hS⟩, hk2⟩
      refine ⟨_, rfl, ?_⟩
      rw [if_neg (by omega), if_neg (by omega)]
      have := hkp.below.size
      exact ⟨⟨⟨O, st, a1, a2, by omega⟩, hS⟩, hkp.trans hk2⟩
  · intro w' hP
    rw [if_neg (by omega), if_neg (by omega)] at hP
    obtain ⟨⟨⟨O, st, a1, a2, _⟩, _⟩, _⟩ := hP
    exact ⟨_, _, O, _, _, _, _, _, a1, a2⟩
end Go.Proofs.Ytecolbdnaipgdaa
