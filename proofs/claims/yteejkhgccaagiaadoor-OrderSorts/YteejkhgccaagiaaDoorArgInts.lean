/- A list of numbers that was handed in. -/
import Derived.Test.YteejkhgccaagiaaDoorLaidO
import Derived.Test.YteejkhgccaagiaaDoorJ09
namespace Go.Proofs.YteejkhgccaagiaaDoor
open Go.ChangeShapes Go.WideShapes Go.ChangeAt Go.RowKit Go.Shelf Sx

theorem bytesInt : Tryd.prog.bytesOf 3 = 8 := by kernel_rfl
set_option maxRecDepth 100000 in
theorem arg_ints {H : Type} {enc : TypeId × Value → H} {W : World} {base : Nat} {v : Value} {d : DataW H} {ps : List MemPlace} (hval : Value.okWide Tryd.prog W .any base 29 v)
    (h : DataW.Trod enc Tryd.prog W 0 (fun _ => true) true 29 v d ps) (hz : ∀ k ∈ d.weights Tryd.prog 29, k ≤ reachBytes) : ∃ l, IntsR W v l ∧ l.length * 8 ≤ 140737488355328 := by
  obtain ⟨a0, len0, cap0, rfl⟩ := okWide_slice Tryd.underlying29 hval
  obtain ⟨fuel, hf⟩ := h
  rcases Deep.open_slice1 Tryd.underlying29 cellsInt hf with ⟨hc, _⟩ | ⟨a, len, cap, m, n, V, D, Pl, hc, _, hl, hm, hmm, hx, hall⟩
  · simp [Value.cells] at hc
    obtain ⟨rfl, rfl, rfl⟩ := hc
    exact ⟨[], .inl ⟨_, _, rfl, rfl⟩, by simp⟩
  · simp [Value.cells] at hc
    obtain ⟨rfl, rfl, rfl⟩ := hc
    simp only [if_true] at hmm
    subst hmm
    by_cases h0 : len0 = 0
    · subst h0
      exact ⟨[], .inl ⟨_, _, rfl, rfl⟩, by simp⟩
    · have hpos : 0 < m := by omega
      obtain ⟨b, o, sp⟩ := a
      have hx0 := (hall 0 hpos).1
      have hsp : sp = none := by
        cases sp with
        | none => rfl
        | some k =>
          simp only [Addr.add, if_true, World.cell?] at hx0
          split at hx0 <;> simp at hx0
      subst hsp
      have hb : b < W.heap.size := World.block_lt_of_cell? W _ hx0
      have hint : ∀ i, i < m → V i = .int .i64 (intOf (V i)) := by
        intro i hi
        obtain ⟨x, h1, _, _⟩ := DataW.trod_int Tryd.underlying3 (hall i hi).2
        simp only [List.cons.injEq, and_true] at h1
        rw [h1]
        rfl
      have hadd : ∀ k, (⟨b, o, none⟩ : Addr).add k = ⟨b, o + k, none⟩ := by
        intro k
        unfold Addr.add
        split
        · rename_i e; subst e; rfl
        · rfl
      have hd : d = .slice ((List.range len0).map D) ((List.range (m - len0)).map fun j => D (len0 + j)) := congrArg Prod.fst hx
      have hw := hz (((List.range len0).map D).length * 8 + ((List.range (m - len0)).map fun j => D (len0 + j)).length * 8) (by
        rw [hd]
        simp only [DataW.weights, Tryd.underlying29]
        rw [bytesInt, Nat.add_mul]
        exact List.mem_cons_self)
      refine ⟨(List.range len0).map fun i => intOf (V i), .inr ⟨b, o, m, by rw [List.length_map, List.length_range], hb, ?_⟩, ?_⟩
      · intro i x hx
        rw [List.getElem?_map, Option.map_eq_some_iff] at hx
        obtain ⟨j, hj, rfl⟩ := hx
        obtain ⟨hj1, rfl⟩ := range_at hj
        have h1 := (hall i (by omega)).1
        rw [hadd, hint i (by omega)] at h1
        exact h1
      · simp only [reachBytes, List.length_map, List.length_range] at hw ⊢
        omega
end Go.Proofs.YteejkhgccaagiaaDoor
