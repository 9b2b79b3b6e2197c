/- View: what a task has seen. -/
import Derived.Test.YtecolbdnaipgdaaSnapClaim
import Derived.Shelf.Lay
import Derived.Deep.Onto
import Derived.Ground.SlgnProg
import Derived.Shelf.SlicesE.Clone
namespace Go.Proofs
open Go.Shelf
def Try.laysClone_ren : Go.Shelf.Ren := ⟨fun | 41 => 22 | n => n, fun | 22 => 34 | 23 => 22 | 4 => 4 | n => n, fun | n => n⟩
theorem Try.laysClone : Go.Proofs.SlLaysE0.n41 Try.prog Try.laysClone_ren := {
  mixed := by kernel_rfl
  f41 := ⟨Try.f22.name, by decide, Try.func22.trans (congrArg some (by kernel_rfl))⟩
  t4 := Try.underlying4
  a4 := Try.isAgg4
  z4 := Try.sizeOf4
  v4 := Try.zeroValue4
  t22 := Try.underlying34
  a22 := Try.isAgg34
  z22 := Try.sizeOf34
  v22 := Try.zeroValue34 }
end Go.Proofs
namespace Go.Proofs.Ytecolbdnaipgdaa
open Go.RowKit

theorem sizeOf_u64 (w : World) : (Go.sizeOf 22).run Try.prog w = .ok 1 w := by
  obtain ⟨i, hx, hz, hs, hb⟩ := info_parts' Try.infou64
  simp [Go.sizeOf, typeInfo, hx, hs]
set_option maxRecDepth 100000 in
theorem clone_calls (b r : Nat) (hr : r ≤ 16) (f : Nat → Int) (w : World) (hb : Blk w b 22 (rowU r f)) :
    Calls Try.prog 22 #[.slice (some ⟨b, 0, none⟩) r r] w fun e w' => ∃ v', e = .returned v' ∧ w'.ownsRow w.heap.size 22 1 v' r ((List.range r).map fun k => .int .u64 (f k)) ∧ v' ≠ .slice none 0 0 ∧ Below w.heap.size w w' := by
  obtain ⟨i, hx, hz, hs, hby⟩ := info_parts' Try.infou64
  refine AnyE.slices_Clone Try.laysClone i (.int .u64 0) 1 8 hx hz hs hby rfl (by omega) sizeOf_u64 b 0 r r _ w (by simp) (by unfold maxLen; omega) (by omega) (fun j u hj => ?_) (fun u hu => ?_)
  · have : j < r := by
      have := (List.getElem?_eq_some_iff.1 hj).1
      simpa using this
    rw [Nat.zero_add]
    rw [List.getElem?_map, List.getElem?_range this] at hj
    injection hj with hj
    subst hj
    exact hb.cell (rowU_at this)
  · obtain ⟨k, _, rfl⟩ := List.mem_map.1 hu
    rfl
set_option maxRecDepth 100000 in
theorem clone_nil (w : World) : Calls Try.prog 22 #[.slice none 0 0] w fun e w' => e = .returned (.slice none 0 0) ∧ w' = w := AnyE.slices_Clone_nil Try.laysClone 0 0 w
set_option maxRecDepth 100000 in
set_option maxHeartbeats 1000000 in
theorem TView_nil (T : Nat) (todo : Value) (st : Int) (O : Nat) (n : Int) (ok : Bool) (w : World) (hT : Blk w T 73 (taskA todo st (some ⟨O, 0, none⟩))) (hO : Blk w O 83 (outA n ok (.slice none 0 0))) :
    Calls Try.prog 9 #[pv T] w fun e w' => e = .returned (.slice none 0 0) ∧ Below w.heap.size w w' := by
  have hF : ∀ w, (Instr.field 83 (.agg (outA n ok (.slice none 0 0))) 2).run Try.prog w = .ok (.slice none 0 0) w := fun w => rfl
  go_enter Try.func9, Try.ntmps9
  go_wp2_with fail
  refine (outcome_calls T todo st O n ok none 0 0 _ hT hO).mono ?_
  rintro e w1 ⟨rfl, hB⟩
  go_wp2_with fail
  refine (clone_nil _).mono ?_
  rintro e w2 ⟨rfl, rfl⟩
  go_wp2_with fail
  go_ret
  exact ⟨rfl, hB⟩
set_option maxRecDepth 100000 in
set_option maxHeartbeats 1000000 in
theorem TView_calls (T : Nat) (todo : Value) (st : Int) (O b r : Nat) (hr : r ≤ 16) (f : Nat → Int) (n : Int) (ok : Bool) (w : World) (hT : Blk w T 73 (taskA todo st (some ⟨O, 0, none⟩))) (hO : Blk w O 83 (outA n ok (.slice (some ⟨b, 0, none⟩) r r))) (hb : Blk w b 22 (rowU r f)) :
    Calls Try.prog 9 #[pv T] w fun e w' => ∃ v', e = .returned v' ∧ w'.ownsRow w.heap.size 22 1 v' r ((List.range r).map fun k => .int .u64 (f k)) ∧ Below w.heap.size w w' := by
  have hF : ∀ w, (Instr.field 83 (.agg (outA n ok (.slice (some ⟨b, 0, none⟩) r r))) 2).run Try.prog w = .ok (.slice (some ⟨b, 0, none⟩) r r) w := fun w => rfl
  go_enter Try.func9, Try.ntmps9
  go_wp2_with fail
  refine (outcome_calls T todo st O n ok (some ⟨b, 0, none⟩) r r _ hT hO).mono ?_
  rintro e w1 ⟨rfl, hB⟩
  have H := clone_calls b r hr f w1 (hb.of_below hB)
  go_wp2_with fail
  refine H.mono ?_
  rintro e w2 ⟨v', rfl, hown, _, hB2⟩
  go_wp2_with fail
  go_ret
  exact ⟨v', rfl, hown.mono hB.size, hB.trans (hB2.mono hB.size)⟩
end Go.Proofs.Ytecolbdnaipgdaa
