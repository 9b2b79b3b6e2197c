import Derived.Test.YtdkogbfamdnheaaGreatDoorCards
import Derived.Test.YtdkogbfamdnheaaGreatDoorJ13
import Derived.ProofKit
import Derived.OpenShut
import Derived.Deep.DeepHandedRow
import Derived.Lib.LaidU8
namespace Go.Proofs.YtdkogbfamdnheaaGreatDoor
open Go.ChangeShapes Go.WideShapes Go.ChangeAt Go.RowKit Go.Shelf Sx
set_option maxRecDepth 100000
set_option maxHeartbeats 16000000
set_option linter.unusedSimpArgs false
set_option linter.unusedVariables false
theorem QCy : ownKnob Tryz.prog.godebug = none := by kernel_rfl
theorem Qxq : Tryz.prog.cellsOf 156 = 64 := by kernel_rfl
theorem Qzq : Tryz.prog.cellsOf 5 = 1 := by kernel_rfl
theorem Qxr : Tryz.prog.cellsOf 3 = 1 := by kernel_rfl
theorem Qvp : Tryz.prog.cellsOf 181 = 2 := by kernel_rfl
theorem Qxs : laidOutB Tryz.prog = true := by kernel_rfl
theorem Qra {W : World} (h : laidMetH Tryz.prog Rows.armListedRow.laid W) : Tab W := by
 have h1 : Lib.TabIs Tryz.prog W (Rows.armListedRow.named.getD 1 Rows.armListedRow.spec) .u8 (Lib.deBruijn64tab.map fun n => ((n : Nat) : Int)) :=
  Lib.tabIs_of_head (g := 0) (rest := [_]) kW kW Tryz.underlying156 Tryz.underlying5 Qzq Qxq h
 have hg : Tryz.prog.globalNamed (Rows.armListedRow.named.getD 1 Rows.armListedRow.spec) = some 0 := by kernel_rfl
 have hc : ∀ j, j < 64 → W.cell? ⟨0, j, none⟩ = some (.int .u8 ((Lib.deBruijn64tab.getD j 0 : Nat) : Int)) := by
  intro j hj
  have hl : Lib.deBruijn64tab.length = 64 := by decide
  have hj' : j < Lib.deBruijn64tab.length := by rw [hl]; exact hj
  have h2 := h1.cell hg j (by rw [List.length_map]; exact hj')
  rw [h2, List.getD_eq_getElem?_getD, List.getD_eq_getElem?_getD, List.getElem?_map, List.getElem?_eq_getElem hj']
  rfl
 exact ⟨World.block_lt_of_cell? W ⟨0, 0, none⟩ (hc 0 oW), hc⟩
def frmL : List (Int × Int) := [(0, 0), (38, 71680), (42, 10240), (60, 49152)]
theorem Qtp : (Rows.laid_sextant_graph_forms : DataW Unit) = .agg (frmL.map fun x => .agg [.lit (.int .i64 x.1), .lit (.int .i64 x.2)]) := rfl
theorem Qrb {W : World} (h : laidMetH Tryz.prog Rows.armListedRow.laid W) : Frm W := by
 have h2 := Lib.laidMet.reads h (.tail _ (.head _))
 rw [Qtp] at h2
 obtain ⟨g, t, cs, fuel, p, hg, hty, hvar, hd⟩ := h2
 obtain rfl := Option.some.inj ((show _ = some 1 by kernel_rfl).symm.trans hg)
 obtain rfl := Option.some.inj ((show _ = some 182 by kernel_rfl).symm.trans hty)
 have key : ∀ i, i < 4 → W.cell? ⟨1, i * 2, none⟩ = some (.int .i64 (frmL.getD i (0, 0)).1) ∧ W.cell? ⟨1, i * 2 + 1, none⟩ = some (.int .i64 (frmL.getD i (0, 0)).2) := by
  intro i hi
  obtain ⟨fuel', d, q, hdi, he⟩ := Lib.array_elem Tryz.underlying182 hd i hi
  rw [Qvp] at he
  rw [List.getElem?_map, Option.map_eq_some_iff] at hdi
  obtain ⟨x, hx, rfl⟩ := hdi
  have hgd : frmL.getD i (0, 0) = x := by rw [List.getD_eq_getElem?_getD, hx]; rfl
  obtain ⟨y0, y1, n, ex, _, g0, g1⟩ := trod_struct2 Tryz.underlying181 he
  obtain ⟨a, e0, k0, _⟩ := DataW.trod_int Tryz.underlying3 g0
  obtain ⟨c, e1, k1, _⟩ := DataW.trod_int Tryz.underlying3 g1
  simp only [Qxr] at e0 e1
  have f0 : y0.1 = .lit (.int .i64 a) := congrArg Prod.fst k0
  have f1 : y1.1 = .lit (.int .i64 c) := congrArg Prod.fst k1
  have ex' := congrArg Prod.fst ex
  simp only [f0, f1] at ex'
  injection ex' with ex'
  injection ex' with z0 z1
  injection z1 with z1 _
  injection z0 with z0
  injection z0 with _ z0
  injection z1 with z1
  injection z1 with _ z1
  subst z0
  subst z1
  rw [hgd, World.var?_cell hg hvar (i * 2), World.var?_cell hg hvar (i * 2 + 1)]
  have r0 : cs.toList[i * 2]? = some (.int .i64 x.1) := by
   have := congrArg (·[0]?) e0
   simpa [List.getElem?_take, List.getElem?_drop] using this
  have r1 : cs.toList[i * 2 + 1]? = some (.int .i64 x.2) := by
   have := congrArg (·[0]?) e1
   simpa [List.getElem?_take, List.getElem?_drop] using this
  exact ⟨by rw [← Array.getElem?_toList]; exact r0, by rw [← Array.getElem?_toList]; exact r1⟩
 have all : ∀ j, j < 8 → W.cell? ⟨1, j, none⟩ = some (.int .i64 (([0, 0, 38, 71680, 42, 10240, 60, 49152] : List Int).getD j 0)) := by
  intro j hj
  match j, hj with
  | 0, _ => exact (key 0 oW).1
  | 1, _ => exact (key 0 oW).2
  | 2, _ => exact (key 1 oW).1
  | 3, _ => exact (key 1 oW).2
  | 4, _ => exact (key 2 oW).1
  | 5, _ => exact (key 2 oW).2
  | 6, _ => exact (key 3 oW).1
  | 7, _ => exact (key 3 oW).2
 exact ⟨World.block_lt_of_cell? W ⟨1, 0, none⟩ (all 0 oW), all⟩
theorem Qos {W W' : World} (h : Below W.heap.size W W') (may : MemPlace → Prop) : W.keptBut W' may := by
 refine ⟨h.os, h.output, fun i hi => ?_⟩
 rw [h.block i hi]
 generalize W.heap[i]? = o
 cases o with
 | none => rfl
 | some o => cases o <;> first | rfl | exact ⟨rfl, rfl, rfl, fun _ _ => rfl⟩ | exact Or.inr ⟨rfl, rfl⟩
end Go.Proofs.YtdkogbfamdnheaaGreatDoor
