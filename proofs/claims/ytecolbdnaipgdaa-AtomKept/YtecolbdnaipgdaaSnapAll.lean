/- A Scan and an Update done alone, in the run of one goroutine. -/
import Derived.Test.YtecolbdnaipgdaaSnapAlone
namespace Go.Proofs.Ytecolbdnaipgdaa
open Go.RowKit

theorem wrap_small (k : Nat) (h : k ≤ 1000) : IntKind.i64.wrap (((k : Nat) : Int) + 1) = ((k + 1 : Nat) : Int) := by
  rw [IntKind.wrap_i64]
  omega
/-- Where a scan stands behind k steps: how many registers of this collect, and in which collect. -/
def pos (r k : Nat) : Nat := if k < r then k else k - r
def sec (r k : Nat) : Bool := decide (r ≤ k)
theorem pos_lt {r k : Nat} (h : k < 2 * r) : pos r k < r := by unfold pos; split <;> omega
theorem pos_next {r k : Nat} (h : k + 1 < 2 * r) : (if pos r k + 1 < r then pos r k + 1 else 0) = pos r (k + 1) := by
  unfold pos
  by_cases h1 : k < r
  · rw [if_pos h1]
    by_cases h2 : k + 1 < r
    · rw [if_pos h2, if_pos h2]
    · rw [if_neg h2, if_neg h2]; omega
  · rw [if_neg h1, if_neg (show ¬ k + 1 < r by omega), if_pos (by omega)]; omega
theorem sec_next {r k : Nat} (_h : k + 1 < 2 * r) : (sec r k || decide (pos r k + 1 = r)) = sec r (k + 1) := by
  unfold sec pos
  by_cases h1 : k < r
  · rw [if_pos h1, decide_eq_false (show ¬ r ≤ k by omega), Bool.false_or]
    by_cases h2 : k + 1 = r
    · rw [decide_eq_true h2, decide_eq_true (show r ≤ k + 1 by omega)]
    · rw [decide_eq_false h2, decide_eq_false (show ¬ r ≤ k + 1 by omega)]
  · rw [if_neg h1, decide_eq_true (show r ≤ k by omega), Bool.true_or, decide_eq_true (show r ≤ k + 1 by omega)]
theorem pos_mid {r k : Nat} (h : k + 1 < 2 * r) : pos r k + 1 < r ∨ sec r k = false := by
  unfold sec pos
  by_cases h1 : k < r
  · right; exact decide_eq_false (by omega)
  · left; rw [if_neg h1]; omega
theorem snap_kp {w w' : World} {n T LK S R K r : Nat} {regs : List (Option Addr)} {f : Nat → Int} {ts ls : Array Value} (h : SnapAt w S R K r regs f) (hT : Blk w T 73 ts) (hL : Blk w LK 107 ls) (hk : Kp n 0 [T, LK] w w') : SnapAt w' S R K r regs f :=
  h.moved fun b t cs hb ht => hk.keep b t cs hb (by simp; exact ⟨hb.ne2 hT (by rcases ht with rfl | rfl | rfl <;> decide), hb.ne2 hL (by rcases ht with rfl | rfl | rfl <;> decide)⟩) (.inl (by rcases ht with rfl | rfl | rfl <;> decide))
def ScanDone (w w' : World) (T r : Nat) (f : Nat → Int) : Prop := ∃ O g st, Blk w' T 73 (taskA .nilFunc st (some ⟨O, 0, none⟩)) ∧ Blk w' O 83 (outA 0 true (.slice (some ⟨g, 0, none⟩) r r)) ∧ Blk w' g 22 (rowU r f) ∧ w.heap.size ≤ O ∧ w.heap.size ≤ g
theorem scan_alone (n T SC LK S R K MV r : Nat) (hr0 : 0 < r) (hr : r ≤ 16) (regs : List (Option Addr)) (f : Nat → Int) (w : World) (h : ScanRun w n T SC LK S R K MV r 0 false 0 regs f) :
    Calls Try.prog 7 #[pv T, .int .i64 100] w fun e w' => (∃ v, e = .returned v) ∧ ScanDone w w' T r f ∧ Kp n 0 [T, LK] w w' := by
  obtain ⟨b0, hL0⟩ := h.look
  obtain ⟨lcs, hLB⟩ := hL0.blk
  have hTB := h.task
  have key := alone_calls T 100 (2 * r) (by omega) (by omega) (fun k w' => if k < 2 * r then ScanRun w' n T SC LK S R K MV r (pos r k) (sec r k) ((k : Nat) : Int) regs f ∧ Kp n 0 [T, LK] w w' else ScanDone w w' T r f ∧ Kp n 0 [T, LK] w w') w ?_ ?_ ?_ ?_
  · refine Calls.mono key ?_
    rintro e w' ⟨w1, hP, hB, todo, st, O, n', ok, x, y, z, _, _, rfl⟩
    rw [if_neg (by omega)] at hP
    obtain ⟨⟨O2, g, st2, a1, a2, a3, a4, a5⟩, hk⟩ := hP
    exact ⟨⟨_, rfl⟩, ⟨O2, g, st2, a1.of_below hB, a2.of_below hB, a3.of_below hB, a4, a5⟩, hk.trans (Kp.of_below hB (by have := hk.below.size; have := h.nT; have := hTB.lt; omega))⟩
  · rw [if_pos (by omega), show pos r 0 = 0 by unfold pos; rw [if_pos hr0], show sec r 0 = false by unfold sec; exact decide_eq_false (by omega)]
    exact ⟨h, Kp.refl _ _ _ _⟩
  · intro k w' hk hP
    rw [if_pos hk] at hP
    exact ⟨_, _, hP.1.task⟩
  · intro k w' hk hP
    rw [if_pos hk] at hP
    obtain ⟨hr1, hkp⟩ := hP
    by_cases hlast : k + 1 < 2 * r
    · refine (step_scan_goes n T SC LK S R K MV r (pos r k) (pos r (k + 1)) (sec r k) (sec r (k + 1)) (pos_next hlast) (sec_next hlast) (pos_lt hk) hr (pos_mid hlast) _ _ (wrap_small k (by omega)) regs f w' hr1).mono ?_
      rintro e w2 ⟨rfl, hr2, hk2⟩
      refine ⟨_, rfl, ?_⟩
      rw [if_pos hlast]
      exact ⟨hr2, hkp.trans hk2⟩
    · obtain rfl : k = 2 * r - 1 := by omega
      rw [show pos r (2 * r - 1) = r - 1 by unfold pos; rw [if_neg (by omega)]; omega, show sec r (2 * r - 1) = true by unfold sec; exact decide_eq_true (by omega)] at hr1
      refine (step_scan_ends n T SC LK S R K MV r hr0 hr _ _ (wrap_small _ (by omega)) regs f w' hr1).mono ?_
      rintro e w2 ⟨rfl, O, g, a1, a2, a3, a4, a5, hk2⟩
      refine ⟨_, rfl, ?_⟩
      rw [if_neg (by omega)]
      have := hkp.below.size
      exact ⟨⟨O, g, _, a1, a2, a3, by omega, by omega⟩, hkp.trans hk2⟩
  · intro w' hP
    rw [if_neg (by omega)] at hP
    obtain ⟨⟨O, g, st, a1, a2, _⟩, _⟩ := hP
    exact ⟨_, _, O, _, _, _, _, _, a1, a2⟩
end Go.Proofs.Ytecolbdnaipgdaa
