/- What the statements' rows give: the table's cells, and the shape of lists of pairs that are handed in. -/
import Derived.Test.YtmmgdeoballhpaaDoorCards
import Derived.Test.YtmmgdeoballhpaaDoorJ08
import Derived.WalkKit
import Derived.ProofKit
import Derived.OpenShut
import Derived.Deep.DeepHandedRow
import Derived.Deep.SlicePairs
import Derived.WideKeyArgs
import Derived.Lib.LaidTab
namespace Go.Proofs.YtmmgdeoballhpaaDoor
open Go.ChangeShapes Go.WideShapes Go.ChangeAt Go.RowKit Go.Shelf Sx

theorem ownKn : ownKnob Tryd.prog.godebug = none := by kernel_rfl
theorem gTab : Tryd.prog.globalNamed (Rows.orderAllRow.named.headD Rows.orderAllRow.spec) = some 0 := by kernel_rfl
theorem gTabType : (Tryd.prog.globals[0]?).map (·.type) = some 128 := by kernel_rfl
theorem cellsTab : Tryd.prog.cellsOf 128 = 64 := by kernel_rfl
theorem cellsU8 : Tryd.prog.cellsOf 5 = 1 := by kernel_rfl
theorem cellsInt : Tryd.prog.cellsOf 3 = 1 := by kernel_rfl
theorem cellsPair : Tryd.prog.cellsOf 37 = 2 := by kernel_rfl
theorem laidOutP : laidOutB Tryd.prog = true := by kernel_rfl

theorem tab_of_laid {W : World} (h : laidMetH Tryd.prog Rows.orderAllRow.laid W) : Tab W := by
  have h1 : Lib.TabIs Tryd.prog W (Rows.orderAllRow.named.headD Rows.orderAllRow.spec) .u8 (Lib.deBruijn64tab.map fun n => ((n : Nat) : Int)) :=
    Lib.tabIs_of_head (rest := []) gTab gTabType Tryd.underlying128 Tryd.underlying5 cellsU8 cellsTab h
  have hc : ∀ j, j < 64 → W.cell? ⟨0, j, none⟩ = some (.int .u8 ((Lib.deBruijn64tab.getD j 0 : Nat) : Int)) := by
    intro j hj
    have hl : Lib.deBruijn64tab.length = 64 := by decide
    have hj' : j < Lib.deBruijn64tab.length := by rw [hl]; exact hj
    have h2 := h1.cell gTab j (by rw [List.length_map]; exact hj')
    rw [h2, List.getD_eq_getElem?_getD, List.getD_eq_getElem?_getD, List.getElem?_map, List.getElem?_eq_getElem hj']
    rfl
  exact ⟨World.block_lt_of_cell? W ⟨0, 0, none⟩ (hc 0 (by omega)), hc⟩

theorem range_at {n i j : Nat} (h : (List.range n)[i]? = some j) : i < n ∧ i = j := by
  rw [List.getElem?_eq_some_iff] at h
  obtain ⟨h1, h2⟩ := h
  rw [List.length_range] at h1
  rw [List.getElem_range] at h2
  exact ⟨h1, h2⟩
set_option maxRecDepth 100000 in
/-- A list of pairs that was handed in lies as Of wants it. -/
theorem arg_pairs {H : Type} {enc : TypeId × Value → H} {W : World} {base : Nat} {v : Value} {d : DataW H} {ps : List MemPlace} (hval : Value.okWide Tryd.prog W .any base 38 v)
    (h : DataW.Trod enc Tryd.prog W 0 (fun _ => true) true 38 v d ps) : ∃ l, PArg W v l := by
  obtain ⟨a0, len0, cap0, rfl⟩ := okWide_slice Tryd.underlying38 hval
  obtain ⟨fuel, hf⟩ := h
  rcases Deep.open_slice_pairs Tryd.underlying38 Tryd.underlying37 cellsPair rfl rfl cellsInt cellsInt hf with ⟨hc, _⟩ | ⟨a, len, cap, m, n, V0, V1, D0, D1, P0, P1, hc, _, hl, hm, hmm, _, hall⟩
  · simp [Value.cells] at hc
    obtain ⟨rfl, rfl, rfl⟩ := hc
    exact ⟨[], .inl ⟨_, _, rfl, rfl⟩⟩
  · simp [Value.cells] at hc
    obtain ⟨rfl, rfl, rfl⟩ := hc
    simp only [if_true] at hmm
    subst hmm
    by_cases h0 : len0 = 0
    · subst h0
      exact ⟨[], .inl ⟨_, _, rfl, rfl⟩⟩
    · have hpos : 0 < m := by omega
      obtain ⟨b, o, sp⟩ := a
      have hx := (hall 0 hpos).1
      have hsp : sp = none := by
        cases sp with
        | none => rfl
        | some k =>
          simp only [Nat.zero_mul, Addr.add, if_true, World.cell?] at hx
          split at hx <;> simp at hx
      subst hsp
      have hb : b < W.heap.size := World.block_lt_of_cell? W _ hx
      have hint : ∀ i, i < m → V0 i = .int .i64 (intOf (V0 i)) ∧ V1 i = .int .i64 (intOf (V1 i)) := by
        intro i hi
        obtain ⟨x, h1, _, _⟩ := DataW.trod_int Tryd.underlying3 (hall i hi).2.2.1
        obtain ⟨y, h2, _, _⟩ := DataW.trod_int Tryd.underlying3 (hall i hi).2.2.2
        simp only [List.cons.injEq, and_true] at h1 h2
        rw [h1, h2]
        exact ⟨rfl, rfl⟩
      have hadd : ∀ k, (⟨b, o, none⟩ : Addr).add k = ⟨b, o + k, none⟩ := by
        intro k
        unfold Addr.add
        split
        · rename_i e; subst e; rfl
        · rfl
      refine ⟨(List.range len0).map fun i => (intOf (V0 i), intOf (V1 i)), .inr ⟨b, o, m, by rw [List.length_map, List.length_range], ⟨hb, ?_, ?_⟩, by rw [List.length_map, List.length_range]; simp only [maxLen] at hm; omega⟩⟩
      · intro i x hx
        rw [List.getElem?_map, Option.map_eq_some_iff] at hx
        obtain ⟨j, hj, rfl⟩ := hx
        obtain ⟨hj1, rfl⟩ := range_at hj
        have h1 := (hall i (by omega)).1
        rw [hadd, (hint i (by omega)).1] at h1
        exact h1
      · intro i x hx
        rw [List.getElem?_map, Option.map_eq_some_iff] at hx
        obtain ⟨j, hj, rfl⟩ := hx
        obtain ⟨hj1, rfl⟩ := range_at hj
        have h1 := (hall i (by omega)).2.1
        rw [hadd, (hint i (by omega)).2] at h1
        exact h1
end Go.Proofs.YtmmgdeoballhpaaDoor
