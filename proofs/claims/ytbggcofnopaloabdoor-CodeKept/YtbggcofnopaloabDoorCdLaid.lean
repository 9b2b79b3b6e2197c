/- What the rows of stage 14 give: the table of forms. -/
import Derived.Test.YtbggcofnopaloabDoorCards
import Derived.Test.YtbggcofnopaloabDoorJ12
import Derived.WalkKit
import Derived.ProofKit
import Derived.OpenShut
import Derived.Deep.DeepHandedRow
import Derived.Deep.Strs
import Derived.WideKeyArgs
import Derived.Lib.LaidU8
namespace Go.Proofs.YtbggcofnopaloabDoor
open Go.ChangeShapes Go.WideShapes Go.ChangeAt Go.RowKit Go.Shelf Go.Deep Sx
theorem ownKn : ownKnob Tryd.prog.godebug = none := by kernel_rfl
theorem cellsU32 : Tryd.prog.cellsOf 22 = 1 := by kernel_rfl
theorem cellsInt : Tryd.prog.cellsOf 3 = 1 := by kernel_rfl
theorem cellsBool : Tryd.prog.cellsOf 4 = 1 := by kernel_rfl
theorem cellsA3 : Tryd.prog.cellsOf 52 = 3 := by kernel_rfl
theorem cellsForm : Tryd.prog.cellsOf 54 = 5 := by kernel_rfl
theorem laidOutP : laidOutB Tryd.prog = true := by kernel_rfl
theorem at_take {cs : List Value} {k : Nat} {v : Value} (h : (cs.drop k).take 1 = [v]) : cs[k]? = some v := by
  have := congrArg (·[0]?) h
  simpa [List.getElem?_take, List.getElem?_drop] using this
theorem at_in {cs : List Value} {a n j : Nat} {v : Value} (h : ((cs.drop a).take n)[j]? = some v) (hj : j < n) : cs[a + j]? = some v := by
  rw [List.getElem?_take, if_pos hj, List.getElem?_drop] at h
  exact h
theorem laid_forms : (Rows.laid_sextant_code_forms : DataW Unit) = .agg (fms.map fun x => .agg [.lit (.int .u32 x.mask), .agg [.lit (.int .i64 x.p0), .lit (.int .i64 x.p1), .lit (.int .i64 x.p2)], .lit (.bool x.apart)]) := rfl
set_option maxRecDepth 100000 in
theorem tb_of_laid {W : World} (h : laidMetH Tryd.prog [("sextant/code.forms", Rows.laid_sextant_code_forms)] W) : Tb W := by
  have h2 := Lib.laidMet.reads h (.head _)
  rw [laid_forms] at h2
  obtain ⟨g, t, cs, fuel, p, hg, hty, hvar, hd⟩ := h2
  obtain rfl := Option.some.inj ((show _ = some 0 by kernel_rfl).symm.trans hg)
  obtain rfl := Option.some.inj ((show _ = some 55 by kernel_rfl).symm.trans hty)
  have key : ∀ n, n < 17 → W.cell? ⟨0, n * 5, none⟩ = some (.int .u32 ((fm n).mask : Nat)) ∧ W.cell? ⟨0, n * 5 + 1, none⟩ = some (.int .i64 ((fm n).p0 : Nat)) ∧ W.cell? ⟨0, n * 5 + 2, none⟩ = some (.int .i64 ((fm n).p1 : Nat)) ∧ W.cell? ⟨0, n * 5 + 3, none⟩ = some (.int .i64 ((fm n).p2 : Nat)) ∧ W.cell? ⟨0, n * 5 + 4, none⟩ = some (.bool (fm n).apart) := by
    intro i hi
    obtain ⟨fuel', d, q, hdi, he⟩ := Lib.array_elem Tryd.underlying55 hd i hi
    rw [cellsForm] at he
    rw [List.getElem?_map, Option.map_eq_some_iff] at hdi
    obtain ⟨x, hx, rfl⟩ := hdi
    have hgd : fm i = x := by unfold fm; rw [List.getD_eq_getElem?_getD, hx]; rfl
    obtain ⟨y0, y1, y2, n, ex, _, g0, g1, g2⟩ := trod_struct3 Tryd.underlying54 he
    obtain ⟨a, e0, k0, _⟩ := DataW.trod_int Tryd.underlying22 g0
    obtain ⟨b, e2, k2⟩ := DataW.trod_bool Tryd.underlying4 g2
    have ex' := congrArg Prod.fst ex
    have f0 : y0.1 = .lit (.int .u32 a) := congrArg Prod.fst k0
    have f2 : y2.1 = .lit (.bool b) := congrArg Prod.fst k2
    simp only [f0, f2] at ex'
    injection ex' with ex'
    simp only [List.cons.injEq, and_true] at ex'
    obtain ⟨z0, z1, z2⟩ := ex'
    injection z0 with z0
    injection z0 with _ z0
    injection z2 with z2
    injection z2 with z2
    subst z0
    subst z2
    obtain ⟨y1d, y1p⟩ := y1
    dsimp only at z1
    subst z1
    have inner : ∀ j v, j < 3 → ([x.p0, x.p1, x.p2] : List Nat)[j]? = some v → ((((cs.toList.drop (i * 5)).take 5).drop 1).take 3)[j]? = some (.int .i64 (v : Int)) := by
      intro j v hj hv
      obtain ⟨fuel2, d2, q2, hd2, he2⟩ := Lib.array_elem Tryd.underlying52 g1 j hj
      rw [cellsInt, Nat.mul_one] at he2
      obtain ⟨c, e1, k1, _⟩ := DataW.trod_int Tryd.underlying3 he2
      have := at_take e1
      have e3 : d2 = .lit (.int .i64 c) := congrArg Prod.fst k1
      have e4 : d2 = .lit (.int .i64 (v : Int)) := by
        obtain rfl | rfl | rfl : j = 0 ∨ j = 1 ∨ j = 2 := by omega
        all_goals
          simp at hd2 hv
          rw [← hd2, hv]
      rw [e3] at e4
      injection e4 with e4
      injection e4 with _ e4
      rw [cellsA3] at this
      rw [this, e4]
    have r0 : cs.toList[i * 5]? = some (.int .u32 (x.mask : Int)) := by
      rw [cellsU32] at e0
      have := at_in (at_take e0) (show 0 < 5 by omega)
      exact this
    have r4 : cs.toList[i * 5 + 4]? = some (.bool x.apart) := by
      rw [cellsBool] at e2
      exact at_in (at_take e2) (show 4 < 5 by omega)
    have rj : ∀ j v : Nat, j < 3 → ([x.p0, x.p1, x.p2] : List Nat)[j]? = some v → cs.toList[i * 5 + (1 + j)]? = some (.int .i64 (v : Int)) := fun j v hj hv => at_in (at_in (inner j v hj hv) hj) (show 1 + j < 5 by omega)
    rw [hgd, World.var?_cell hg hvar (i * 5), World.var?_cell hg hvar (i * 5 + 1), World.var?_cell hg hvar (i * 5 + 2), World.var?_cell hg hvar (i * 5 + 3), World.var?_cell hg hvar (i * 5 + 4)]
    simp only [← Array.getElem?_toList]
    exact ⟨r0, rj 0 _ (by omega) rfl, rj 1 _ (by omega) rfl, rj 2 _ (by omega) rfl, r4⟩
  exact ⟨World.block_lt_of_cell? W ⟨0, 0, none⟩ (key 0 (by omega)).1, key⟩
theorem kept_of_below {W W' : World} (h : Below W.heap.size W W') (may : MemPlace → Prop) : W.keptBut W' may := by
  refine ⟨h.os, h.output, fun i hi => ?_⟩
  rw [h.block i hi]
  generalize W.heap[i]? = o
  cases o with
  | none => rfl
  | some o => cases o <;> first | rfl | exact ⟨rfl, rfl, rfl, fun _ _ => rfl⟩ | exact Or.inr ⟨rfl, rfl⟩
theorem cellsI64 : Tryd.prog.cellsOf 2 = 1 := by kernel_rfl
theorem cellsIns : Tryd.prog.cellsOf 25 = 6 := by kernel_rfl
theorem wf_i64 {n : Int} (h : (Lit.int .i64 n).wf = true) : -9223372036854775808 ≤ n ∧ n ≤ 9223372036854775807 := by
  have h := Bool.and_eq_true_iff.1 h
  exact ⟨of_decide_eq_true h.1, of_decide_eq_true h.2⟩
def putTab (cs : Array Value) : Obj → Obj
  | .cells _ t frozen => .cells cs t frozen
  | o => o
def fmsA : Array Value := (fms.flatMap fun x => [Value.int .u32 (x.mask : Int), .int .i64 (x.p0 : Int), .int .i64 (x.p1 : Int), .int .i64 (x.p2 : Int), .bool x.apart]).toArray
def laidW (W : World) : World := { W with heap := W.heap.modify 0 (putTab fmsA) }
end Go.Proofs.YtbggcofnopaloabDoor
