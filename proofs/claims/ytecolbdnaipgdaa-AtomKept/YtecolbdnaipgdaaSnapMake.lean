/- NewSnap, newLook, Scan. -/
import Derived.Test.YtecolbdnaipgdaaSnapUpDone
namespace Go.Proofs.Ytecolbdnaipgdaa
open Go.RowKit

theorem info_cells' {o : Option TypeInfo} {z : Option (Array Value)} {s b : Nat} (h : o.map (fun i => (i.zero.map Value.cells, i.size, i.bytes)) = some (z, s, b)) : ∃ i, o = some i ∧ i.zero.map Value.cells = z ∧ i.size = s ∧ i.bytes = b := by
  cases o with
  | none => cases h
  | some i => simp at h; exact ⟨i, rfl, h.1, h.2.1, h.2.2⟩
theorem Try.infoptrRec : (Try.prog.info? 101).map (fun i => (i.zero.map Value.cells, i.size, i.bytes)) = some (some #[.pointer none], 1, 8) := by kernel_rfl
theorem Try.infoboolK : (Try.prog.info? 4).map (fun i => (i.zero.map Value.cells, i.size, i.bytes)) = some (some #[.bool false], 1, 1) := by kernel_rfl
theorem make_ptrRecs (n : Nat) (h : n ≤ 256) (w : World) : (Instr.makeSlice 44 (.int .i64 n) (.int .i64 n)).run Try.prog w = .ok (.slice (some ⟨w.heap.size, 0, none⟩) n n) (w.alloc (.cells ((List.replicate n (none : Option Addr)).map Value.pointer).toArray 101)) := by
  obtain ⟨i, hx, hz, hs, hb⟩ := info_cells' Try.infoptrRec
  obtain ⟨z, hz1, hz2⟩ := Option.map_eq_some_iff.1 hz
  have := run_make (P := Try.prog) w 44 101 i z (by kernel_rfl) hx hz1 .i64 .i64 n n (by omega) (by omega) (by rw [hb]; omega) (by omega)
  rw [this, hs]
  have e : madeCells z.cells ((n : Int).toNat * 1) = ((List.replicate n (none : Option Addr)).map Value.pointer).toArray := by
    apply Array.toList_inj.1
    rw [Int.toNat_natCast, Nat.mul_one, hz2, toList_madeCells_one]
    simp
  rw [e]
  rfl
theorem make_boolsK (n : Nat) (h : n ≤ 256) (w : World) : (Instr.makeSlice 104 (.int .i64 n) (.int .i64 n)).run Try.prog w = .ok (.slice (some ⟨w.heap.size, 0, none⟩) n n) (w.alloc (.cells (List.replicate n (Value.bool false)).toArray 4)) := by
  obtain ⟨i, hx, hz, hs, hb⟩ := info_cells' Try.infoboolK
  obtain ⟨z, hz1, hz2⟩ := Option.map_eq_some_iff.1 hz
  have := run_make (P := Try.prog) w 104 4 i z (by kernel_rfl) hx hz1 .i64 .i64 n n (by omega) (by omega) (by rw [hb]; omega) (by omega)
  rw [this, hs]
  have e : madeCells z.cells ((n : Int).toNat * 1) = (List.replicate n (Value.bool false)).toArray := by
    apply Array.toList_inj.1
    rw [Int.toNat_natCast, Nat.mul_one, hz2, toList_madeCells_one]
  rw [e]
  rfl
set_option maxRecDepth 100000 in
set_option maxHeartbeats 4000000 in
theorem newLook_calls (S R K r n : Nat) (hr : r ≤ 16) (regs : List (Option Addr)) (w : World) (hn : n ≤ w.heap.size) (hS : Blk w S 46 #[.slice (some ⟨R, 0, none⟩) r r, .slice (some ⟨K, 0, none⟩) r r]) :
    Calls Try.prog 19 #[pv S] w fun e w' => ∃ LK MV, e = .returned (pv LK) ∧ w.heap.size ≤ LK ∧ LookSt w' n LK S MV r 0 false regs w'.heap.size ∧ Below w.heap.size w w' := by
  have c0 := hS.cell (j := 0) rfl
  have hmk := make_boolsK r (by omega)
  go_enter Try.func19, Try.ntmps19
  go_wp2_with fail
  go_ret
  refine ⟨w.heap.size + 1, w.heap.size, rfl, by omega, ⟨none, 0, 0, none, 0, by simp; omega, Nat.le_refl _, Blk.new2 w _ _ _, World.ownsRow_nil _ _ _ _, fun _ => ⟨rfl, rfl, rfl⟩, fun h => (by cases h)⟩, ((Below.refl _ w).alloc (Nat.le_refl _) _).alloc (by simp) _⟩
end Go.Proofs.Ytecolbdnaipgdaa
