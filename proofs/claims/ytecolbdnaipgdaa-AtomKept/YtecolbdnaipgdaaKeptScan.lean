/- Scan, told by its blocks; two views that are told. -/
import Derived.Test.YtecolbdnaipgdaaKeptFns
namespace Go.Proofs.Ytecolbdnaipgdaa
open Go.RowKit

theorem look_fresh {w : World} {n LK S MV r : Nat} (hn : n ≤ w.heap.size) (h : Blk w LK 107 #[pv S, .slice none 0 0, .slice none 0 0, .slice (some ⟨MV, 0, none⟩) r r]) (regs : List (Option Addr)) : LookSt w n LK S MV r 0 false regs w.heap.size :=
  ⟨none, 0, 0, none, 0, hn, Nat.le_refl _, h, World.ownsRow_nil _ _ _ _, fun _ => ⟨rfl, rfl, rfl⟩, fun h => (by cases h)⟩
set_option maxRecDepth 100000 in
set_option maxHeartbeats 4000000 in
theorem newLook0_calls (S R K r : Nat) (hr : r ≤ 16) (w : World) (hS : Blk w S 46 #[.slice (some ⟨R, 0, none⟩) r r, .slice (some ⟨K, 0, none⟩) r r]) :
    Calls Try.prog 19 #[pv S] w fun e w' => ∃ LK MV, e = .returned (pv LK) ∧ w.heap.size ≤ LK ∧ Blk w' LK 107 #[pv S, .slice none 0 0, .slice none 0 0, .slice (some ⟨MV, 0, none⟩) r r] ∧ Below w.heap.size w w' := by
  have c0 := hS.cell (j := 0) rfl
  have hmk := make_boolsK r (by omega)
  go_enter Try.func19, Try.ntmps19
  go_wp2_with fail
  go_ret
  exact ⟨w.heap.size + 1, w.heap.size, rfl, by omega, Blk.new2 w _ _ _, ((Below.refl _ w).alloc (Nat.le_refl _) _).alloc (by simp) _⟩
set_option maxRecDepth 100000 in
set_option maxHeartbeats 4000000 in
theorem Scan0_calls (S R K r : Nat) (hr : r ≤ 16) (w : World) (hS : Blk w S 46 #[.slice (some ⟨R, 0, none⟩) r r, .slice (some ⟨K, 0, none⟩) r r]) :
    Calls Try.prog 8 #[pv S] w fun e w' => ∃ T SC LK MV, e = .returned (pv T) ∧ w.heap.size ≤ T ∧ w.heap.size ≤ LK ∧ Blk w' T 73 (taskA (.func (.func 21) #[pv SC] #[]) 0 none) ∧ Blk w' SC 80 #[pv T, pv LK] ∧ Blk w' LK 107 #[pv S, .slice none 0 0, .slice none 0 0, .slice (some ⟨MV, 0, none⟩) r r] ∧ Below w.heap.size w w' := by
  have hS1 := hS.alloc (.cells (taskA .nilFunc 0 none) 73)
  go_enter Try.func8, Try.ntmps8
  go_wp2_with fail
  refine (newLook0_calls S R K r hr _ hS1).mono ?_
  rintro e w1 ⟨LK, MV, rfl, zL, hL, hB⟩
  have hT0 := (Blk.new w 73 (taskA .nilFunc 0 none)).of_below hB
  have hT1 := hT0.alloc (.cells #[pv w.heap.size, pv LK] 80)
  have hC1 := Blk.new w1 80 #[pv w.heap.size, pv LK]
  have c0 := hC1.cell (j := 0) rfl
  have hs := store_run (v := .func (.func 21) #[pv w1.heap.size] #[]) rfl (hT1.cell (j := 0) rfl) (hT1.frozen 0)
  have hlt := hT0.lt
  have hz := hB.size
  have hCT := (hC1.setOther (a := ⟨w.heap.size, 0, none⟩) (by simp; omega) (.func (.func 21) #[pv w1.heap.size] #[])).cell (j := 0) rfl
  go_wp2_with fail
  go_ret
  have hO : Only [w.heap.size] w1 ((w1.setCell ⟨w.heap.size, 0, none⟩ (.func (.func 21) #[pv w1.heap.size] #[])).alloc (.cells #[pv w.heap.size, pv LK] 80)) := (Only.set _ (by simp) _ _).trans (Only.alloc _ _ _)
  have hTf := (hT0.set 0 (.func (.func 21) #[pv w1.heap.size] #[])).alloc (.cells #[pv w.heap.size, pv LK] 80)
  have hCf := Blk.new (w1.setCell ⟨w.heap.size, 0, none⟩ (.func (.func 21) #[pv w1.heap.size] #[])) 80 #[pv w.heap.size, pv LK]
  rw [World.size_setCell] at hCf
  have hw1 : w.heap.size + 1 ≤ w1.heap.size := by simpa using hz
  have zL' : w.heap.size + 1 ≤ LK := by simpa using zL
  refine ⟨w.heap.size, w1.heap.size, LK, MV, rfl, Nat.le_refl _, by omega, hTf, hCf, only_ne hO hT0 hL (by decide), ?_⟩
  exact ((Below.refl _ w).alloc (Nat.le_refl _) (.cells (taskA .nilFunc 0 none) 73)).trans ((hB.mono (by simp)).trans (hO.below (by simp) (by omega)))
end Go.Proofs.Ytecolbdnaipgdaa
