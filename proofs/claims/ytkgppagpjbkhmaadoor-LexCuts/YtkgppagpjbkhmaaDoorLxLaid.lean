/- What the rows of stage 5 give: the table of signs and the decoder's tables. -/
import Derived.Test.YtkgppagpjbkhmaaDoorCards
import Derived.Test.YtkgppagpjbkhmaaDoorLxLex
import Derived.WalkKit
import Derived.ProofKit
import Derived.OpenShut
import Derived.Deep.DeepHandedRow
import Derived.Lib.LaidU8
import Derived.WideKeyArgs
namespace Go.Proofs.YtkgppagpjbkhmaaDoor
open Go.ChangeShapes Go.WideShapes Go.ChangeAt Go.RowKit Go.Shelf

theorem ownKn : ownKnob Tryd.prog.godebug = none := by kernel_rfl
theorem cellsStr : Tryd.prog.cellsOf 9 = 1 := by kernel_rfl
theorem laidOutP : laidOutB Tryd.prog = true := by kernel_rfl
theorem u8extra : U8Extra Tryd.prog Tryd.lays260_ren := ⟨by kernel_rfl, by kernel_rfl, by kernel_rfl, by kernel_rfl, by kernel_rfl, by kernel_rfl, by kernel_rfl⟩
theorem sig_of_reads {W : World} {n : String} (hn : Tryd.prog.globalNamed n = some 0) (hy : (Tryd.prog.globals[0]?).map (·.type) = some 77) (h : Lib.VarReads Tryd.prog W n Rows.laid_sextant_lex_signs) : SigTab W := by
  obtain ⟨g, t, cs, fuel, p, hg, hty, hvar, hd⟩ := h
  obtain rfl := Option.some.inj (hn.symm.trans hg)
  obtain rfl := Option.some.inj (hy.symm.trans hty)
  have key : ∀ j, j < 25 → W.cell? ⟨0, j, none⟩ = signsA[j]? := by
    intro j hj
    obtain ⟨fuel', d, q, hdi, he⟩ := Lib.array_elem Tryd.underlying77 hd j hj
    rw [cellsStr, Nat.mul_one] at he
    obtain ⟨s, hcs, hx, _⟩ := DataW.trod_string Tryd.underlying9 he
    have h1 : cs.toList[j]? = some (.string s) := by
      have := congrArg (·[0]?) hcs
      simpa [List.getElem?_take, List.getElem?_drop] using this
    have h2 : d = .lit (.string s.data.toList) := congrArg Prod.fst hx
    rw [World.var?_cell hg hvar j, ← Array.getElem?_toList, h1]
    subst h2
    have key2 : ∀ j, j < 25 → ∀ l : List UInt8, ((signsL.map (fun l => (DataW.lit (.string l) : DataW Unit)))[j]? = some (.lit (.string l))) → signsA[j]? = some (.string ⟨l.toArray⟩) := by
      intro j hj l hl
      rw [List.getElem?_map, Option.map_eq_some_iff] at hl
      obtain ⟨l', h3, h4⟩ := hl
      injection h4 with h4
      injection h4 with h4
      subst h4
      exact signs_at h3
    have h5 := key2 j hj s.data.toList hdi
    rw [h5]
  exact ⟨World.block_lt_of_cell? W ⟨0, 0, none⟩ (key 0 (by omega)), key⟩
theorem first_same : Rows.laid_unicode_utf8_first = Lib.firstData := by kernel_rfl
theorem accept_same : (Rows.laid_unicode_utf8_acceptRanges : DataW Unit) = Lib.acceptData := by kernel_rfl
theorem tabs_of_laid {W : World} (h : laidMetH Tryd.prog Rows.lexKnownRow.laid W) : Tabs W := by
  have h1 := Lib.laidMet.reads h (.head _)
  have h2 := Lib.laidMet.reads h (.tail _ (.head _))
  have h3 := Lib.laidMet.reads h (.tail _ (.tail _ (.head _)))
  rw [first_same] at h3
  rw [accept_same] at h1
  exact ⟨sig_of_reads (by kernel_rfl) (by kernel_rfl) h2, utf8Tabs_of_reads Tryd.lays260 u8extra h3 h1⟩
theorem kept_of_below {W W' : World} (h : Below W.heap.size W W') (may : MemPlace → Prop) : W.keptBut W' may := by
  refine ⟨h.os, h.output, fun i hi => ?_⟩
  rw [h.block i hi]
  generalize W.heap[i]? = o
  cases o with
  | none => rfl
  | some o => cases o <;> first | rfl | exact ⟨rfl, rfl, rfl, fun _ _ => rfl⟩ | exact Or.inr ⟨rfl, rfl⟩
end Go.Proofs.YtkgppagpjbkhmaaDoor
