/- NewSnap and Scan. -/
import Derived.Test.YtecolbdnaipgdaaSnapMake
namespace Go.Proofs.Ytecolbdnaipgdaa
open Go.RowKit

theorem Blk.new3 (w : World) (o1 o2 : Obj) (t : TypeId) (cs : Array Value) : Blk (((w.alloc o1).alloc o2).alloc (.cells cs t)) (w.heap.size + 2) t cs := by
  have := Blk.new ((w.alloc o1).alloc o2) t cs
  simpa using this
theorem snap_fresh (w : World) (S R K n : Nat) (hS : Blk w S 46 #[.slice (some ⟨R, 0, none⟩) n n, .slice (some ⟨K, 0, none⟩) n n]) (hR : Blk w R 101 (Array.replicate n (.pointer none))) : SnapAt w S R K n (List.replicate n none) (fun _ => 0) := by
  refine ⟨hS, by simpa using hR, by simp, fun p hp => .inl (List.eq_of_mem_replicate hp), fun i p hi => .inl ⟨?_, rfl⟩⟩
  exact List.eq_of_mem_replicate (List.mem_of_getElem? hi)
set_option maxRecDepth 100000 in
set_option maxHeartbeats 4000000 in
theorem NewSnap_calls (n : Nat) (h1 : 1 ≤ n) (h2 : n ≤ 16) (w : World) :
    Calls Try.prog 5 #[.int .i64 ((n : Nat) : Int)] w fun e w' => ∃ S R K, e = .returned (.tuple #[pv S, .int .i64 0]) ∧ w.heap.size ≤ S ∧ w.heap.size ≤ R ∧ w.heap.size ≤ K ∧ R ≠ K ∧ SnapAt w' S R K n (List.replicate n none) (fun _ => 0) ∧ Blk w' K 101 (Array.replicate n (.pointer none)) ∧ Below w.heap.size w w' := by
  have hmk := make_ptrRecs n (by omega)
  have e1 : ¬ ((n : Nat) : Int) < 1 := by omega
  have e2 : ¬ (16 : Int) < ((n : Nat) : Int) := by omega
  go_enter Try.func5, Try.ntmps5
  go_wp2_with fail
  go_region
  all_goals
    go_wp2_with fail
    go_ret2
    first
    | exact ⟨w.heap.size + 2, w.heap.size, w.heap.size + 1, rfl, by omega, by omega, by omega, by omega, snap_fresh _ _ _ _ _ ((Blk.new3 w _ _ _ _).drew) ((((Blk.new w _ _).alloc _).alloc _).drew), (((Blk.new2 w _ _ _).alloc _).drew), ((((Below.refl _ w).alloc (Nat.le_refl _) _).alloc (by simp) _).alloc (by simp; omega) _).drew⟩
    | exact ⟨w.heap.size + 2, w.heap.size + 1, w.heap.size, rfl, by omega, by omega, by omega, by omega, snap_fresh _ _ _ _ _ ((Blk.new3 w _ _ _ _).drew) (((Blk.new2 w _ _ _).alloc _).drew), ((((Blk.new w _ _).alloc _).alloc _).drew), ((((Below.refl _ w).alloc (Nat.le_refl _) _).alloc (by simp) _).alloc (by simp; omega) _).drew⟩
set_option maxRecDepth 100000 in
set_option maxHeartbeats 4000000 in
theorem Scan_calls (S R K r n : Nat) (hr : r ≤ 16) (regs : List (Option Addr)) (f : Nat → Int) (w : World) (hn : n ≤ w.heap.size) (hS : SnapAt w S R K r regs f) :
    Calls Try.prog 8 #[pv S] w fun e w' => ∃ T SC LK MV, e = .returned (pv T) ∧ w.heap.size ≤ T ∧ w.heap.size ≤ LK ∧ ScanRun w' n T SC LK S R K MV r 0 false 0 regs f ∧ Below w.heap.size w w' := by
  have hS1 := hS.snap.alloc (.cells (taskA .nilFunc 0 none) 73)
  go_enter Try.func8, Try.ntmps8
  go_wp2_with fail
  refine (newLook_calls S R K r n hr regs _ (by simp; omega) hS1).mono ?_
  rintro e w1 ⟨LK, MV, rfl, zL, hL, hB⟩
  have hT0 := (Blk.new w 73 (taskA .nilFunc 0 none)).of_below hB
  have hT1 := hT0.alloc (.cells #[pv w.heap.size, pv LK] 80)
  have hC1 := Blk.new w1 80 #[pv w.heap.size, pv LK]
  have c0 := hC1.cell (j := 0) rfl
  have hs := store_run (v := .func (.func 21) #[pv w1.heap.size] #[]) rfl (hT1.cell (j := 0) rfl) (hT1.frozen 0)
  have hlt := hT0.lt
  have hz := hB.size
  have hCT := (hC1.setOther (a := ⟨w.heap.size, 0, none⟩) (by simp; omega) (.func (.func 21) #[pv w1.heap.size] #[])).cell (j := 0) rfl
  go_wp2_with fail
  go_ret
  have hO : Only [w.heap.size] w1 ((w1.setCell ⟨w.heap.size, 0, none⟩ (.func (.func 21) #[pv w1.heap.size] #[])).alloc (.cells #[pv w.heap.size, pv LK] 80)) := (Only.set _ (by simp) _ _).trans (Only.alloc _ _ _)
  have hTf := (hT0.set 0 (.func (.func 21) #[pv w1.heap.size] #[])).alloc (.cells #[pv w.heap.size, pv LK] 80)
  have hCf := Blk.new (w1.setCell ⟨w.heap.size, 0, none⟩ (.func (.func 21) #[pv w1.heap.size] #[])) 80 #[pv w.heap.size, pv LK]
  rw [World.size_setCell] at hCf
  have hw1 : w.heap.size + 1 ≤ w1.heap.size := by simpa using hz
  have zL' : w.heap.size + 1 ≤ LK := by simpa using zL
  refine ⟨w.heap.size, w1.heap.size, LK, MV, rfl, Nat.le_refl _, by omega, ⟨hTf, hCf, ⟨_, hL.moved (fun b t cs hb ht => only_ne hO hT0 hb (by rcases ht with rfl | rfl <;> decide)) hO.size⟩, hS.moved (fun b t cs hb ht => only_ne hO hT0 ((hb.alloc _).of_below hB) (by rcases ht with rfl | rfl | rfl <;> decide)), hn, by omega⟩, ?_⟩
  exact ((Below.refl _ w).alloc (Nat.le_refl _) (.cells (taskA .nilFunc 0 none) 73)).trans ((hB.mono (by simp)).trans (hO.below (by simp) (by omega)))
end Go.Proofs.Ytecolbdnaipgdaa
