/- A Scan done alone, step by step, in the run of one goroutine. -/
import Derived.Test.YtecolbdnaipgdaaSnapStep
namespace Go.Proofs.Ytecolbdnaipgdaa
open Go.RowKit

theorem Kp.low {n base : Nat} {bs : List Nat} {w w' : World} (h : Kp n base bs w w') : Kp n 0 bs w w' := ⟨h.below, fun b t cs hb h1 h2 => h.keep b t cs hb h1 (by rcases h2 with h2 | h2; exact .inl h2; omega)⟩
theorem only_ne {w w' : World} {T : Nat} {u : TypeId} {us : Array Value} (h : Only [T] w w') (hT : Blk w T u us) {b : Nat} {t : TypeId} {cs : Array Value} (hb : Blk w b t cs) (ht : t ≠ u) : Blk w' b t cs := hb.only h (by simp; exact hb.ne2 hT ht)
structure ScanRun (w : World) (n T SC LK S R K MV r j : Nat) (second : Bool) (st : Int) (regs : List (Option Addr)) (f : Nat → Int) : Prop where
  task : Blk w T 73 (taskA (.func (.func 21) #[pv SC] #[]) st none)
  scan : Blk w SC 80 #[pv T, pv LK]
  look : ∃ base, LookSt w n LK S MV r j second regs base
  snap : SnapAt w S R K r regs f
  nT : n ≤ T
  nL : n ≤ LK
theorem LookSt.blk {w : World} {n LK S MV r j base : Nat} {second : Bool} {regs : List (Option Addr)} (h : LookSt w n LK S MV r j second regs base) : ∃ cs, Blk w LK 107 cs := by
  obtain ⟨lp, ln, lc, p, cap, _, _, h1, _⟩ := h
  exact ⟨_, h1⟩
set_option maxRecDepth 100000 in
set_option maxHeartbeats 4000000 in
theorem step_scan_goes (n T SC LK S R K MV r j j2 : Nat) (second s2 : Bool) (hj2 : Hid ((if j + 1 < r then j + 1 else 0) = j2)) (hs2 : Hid ((second || decide (j + 1 = r)) = s2)) (hj : j < r) (hr : r ≤ 16) (hmid : j + 1 < r ∨ second = false) (st s1 : Int) (hs1 : IntKind.i64.wrap (st + 1) = s1) (regs : List (Option Addr)) (f : Nat → Int) (w : World) (h : ScanRun w n T SC LK S R K MV r j second st regs f) :
    Calls Try.prog 15 #[pv T] w fun e w' => e = .returned (.bool false) ∧ ScanRun w' n T SC LK S R K MV r j2 s2 s1 regs f ∧ Kp n 0 [T, LK] w w' := by
  obtain ⟨hT, hSC, ⟨base, hL⟩, hS, nT, nL⟩ := h
  obtain ⟨lcs, hLB⟩ := hL.blk
  have hTL := hT.ne2 hLB (by decide)
  have hCL := hSC.ne2 hLB (by decide)
  go_enter Try.func15, Try.ntmps15
  go_wp2_with fail
  refine (TDone_calls T _ st none _ hT (.inl rfl)).mono ?_
  rintro e w1 ⟨rfl, h⟩
  have h := h.symm
  subst h
  go_wp2_with fail
  refine (i64Add_calls T 1 st 1 s1 _ (hT.cell (j := 1) rfl) (hT.frozen 1) hs1).mono ?_
  rintro e w2 ⟨rfl, h⟩
  have hT1 := hT.set 1 (.int .i64 s1)
  simp only [List.setIfInBounds_toArray, List.set_cons_zero, List.set_cons_succ] at hT1
  have hO1 : Only [T] w (w.setCell ⟨T, 1, none⟩ (.int .i64 s1)) := Only.set _ (by simp) _ _
  rw [← h] at hT1 hO1
  clear h hs1
  have hSC1 := only_ne hO1 hT hSC (by decide)
  have hL1 := hL.moved (fun b t cs hb ht => only_ne hO1 hT hb (by rcases ht with rfl | rfl <;> decide)) hO1.size
  have hS1 := hS.moved (fun b t cs hb ht => only_ne hO1 hT hb (by rcases ht with rfl | rfl | rfl <;> decide))
  have nW : n ≤ w.heap.size := by have := hT.lt; omega
  have c0 := hT1.cell (j := 0) rfl
  go_wp2_with fail
  refine (scLoad_goes SC T LK S R K MV r j n base j2 second s2 hj2 hs2 hj hr hmid regs f w2 hSC1 hL1 hS1 nL).mono ?_
  rintro e w3 ⟨rfl, hK, hL3⟩
  have hT3 := hK.keep _ _ _ hT1 (by simp; exact hTL) (.inl (by decide))
  have hSC3 := hK.keep _ _ _ hSC1 (by simp; exact hCL) (.inl (by decide))
  obtain ⟨lcs2, hLB2⟩ := hL1.blk
  have hS3 := hS1.moved (fun b t cs hb ht => hK.keep b t cs hb (by simp; exact hb.ne2 hLB2 (by rcases ht with rfl | rfl | rfl <;> decide)) (.inl (by rcases ht with rfl | rfl | rfl <;> decide)))
  go_wp2_with fail
  refine (TDone_calls T _ s1 none _ hT3 (.inl rfl)).mono ?_
  rintro e w4 ⟨rfl, h⟩
  have h := h.symm
  subst h
  go_wp2_with fail
  go_ret
  exact ⟨rfl, ⟨hT3, hSC3, hL3, hS3, nT, nL⟩, (Kp.of_only (hO1.mono (by simp)) (by simp; omega) nW).trans (hK.low.mono (by simp))⟩
set_option maxRecDepth 100000 in
set_option maxHeartbeats 4000000 in
theorem step_scan_ends (n T SC LK S R K MV r : Nat) (hr0 : 0 < r) (hr : r ≤ 16) (st s1 : Int) (hs1 : IntKind.i64.wrap (st + 1) = s1) (regs : List (Option Addr)) (f : Nat → Int) (w : World) (h : ScanRun w n T SC LK S R K MV r (r - 1) true st regs f) :
    Calls Try.prog 15 #[pv T] w fun e w' => e = .returned (.bool true) ∧ ∃ O g, Blk w' T 73 (taskA .nilFunc s1 (some ⟨O, 0, none⟩)) ∧ Blk w' O 83 (outA 0 true (.slice (some ⟨g, 0, none⟩) r r)) ∧ Blk w' g 22 (rowU r f) ∧ w.heap.size ≤ O ∧ w.heap.size ≤ g ∧ Kp n 0 [T, LK] w w' := by
  obtain ⟨hT, hSC, ⟨base, hL⟩, hS, nT, nL⟩ := h
  obtain ⟨lcs, hLB⟩ := hL.blk
  have hTL := hT.ne2 hLB (by decide)
  have hCL := hSC.ne2 hLB (by decide)
  go_enter Try.func15, Try.ntmps15
  go_wp2_with fail
  refine (TDone_calls T _ st none _ hT (.inl rfl)).mono ?_
  rintro e w1 ⟨rfl, h⟩
  have h := h.symm
  subst h
  go_wp2_with fail
  refine (i64Add_calls T 1 st 1 s1 _ (hT.cell (j := 1) rfl) (hT.frozen 1) hs1).mono ?_
  rintro e w2 ⟨rfl, h⟩
  have hT1 := hT.set 1 (.int .i64 s1)
  simp only [List.setIfInBounds_toArray, List.set_cons_zero, List.set_cons_succ] at hT1
  have hO1 : Only [T] w (w.setCell ⟨T, 1, none⟩ (.int .i64 s1)) := Only.set _ (by simp) _ _
  rw [← h] at hT1 hO1
  clear h hs1
  have hSC1 := only_ne hO1 hT hSC (by decide)
  have hL1 := hL.moved (fun b t cs hb ht => only_ne hO1 hT hb (by rcases ht with rfl | rfl <;> decide)) hO1.size
  have hS1 := hS.moved (fun b t cs hb ht => only_ne hO1 hT hb (by rcases ht with rfl | rfl | rfl <;> decide))
  have nW : n ≤ w.heap.size := by have := hT.lt; omega
  have hsz := hO1.size
  have c0 := hT1.cell (j := 0) rfl
  go_wp2_with fail
  refine (scLoad_ends SC T LK S R K MV r n base hr0 hr _ s1 regs f w2 hT1 hSC1 hL1 hS1 nL hTL hCL).mono ?_
  rintro e w3 ⟨rfl, O, g, hT3, hOb, hU, zO, zg, w5, hK, hOn⟩
  have hw5 : n ≤ w5.heap.size := by have := hK.below.size; omega
  go_wp2_with fail
  refine (TDone_calls T _ s1 (some ⟨O, 0, none⟩) _ hT3 (.inr ⟨O, _, rfl, hOb, rfl⟩)).mono ?_
  rintro e w4 ⟨rfl, h⟩
  have h := h.symm
  subst h
  go_wp2_with fail
  go_ret
  exact ⟨rfl, O, g, hT3, hOb, hU, by omega, by omega, ((Kp.of_only (hO1.mono (by simp)) (by simp; omega) nW).trans (hK.low.mono (by simp))).trans (Kp.of_only (hOn.mono (by simp)) (by simp; omega) hw5)⟩
end Go.Proofs.Ytecolbdnaipgdaa
