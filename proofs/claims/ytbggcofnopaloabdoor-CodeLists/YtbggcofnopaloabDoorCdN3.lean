/- Arguments that are lists. -/
import Derived.Test.YtbggcofnopaloabDoorCdLaid
import Derived.Test.YtbggcofnopaloabDoorJ13
import Derived.Deep.Slices
namespace Go.Proofs.YtbggcofnopaloabDoor
open Go.ChangeShapes Go.WideShapes Go.ChangeAt Go.RowKit Go.Shelf Go.Deep Sx
theorem add_none (b o k : Nat) : (⟨b, o, none⟩ : Addr).add k = ⟨b, o + k, none⟩ := by
  unfold Addr.add
  split
  · rename_i e; subst e; rfl
  · rfl
theorem add_zero (a : Addr) : a.add 0 = a := by unfold Addr.add; rw [if_pos rfl]
theorem plain_addr {W : World} {b o : Nat} {sp : Option Nat} {v : Value} (h : W.cell? ⟨b, o, sp⟩ = some v) : sp = none := by
  cases sp with
  | none => rfl
  | some j =>
    simp only [World.cell?] at h
    split at h <;> simp at h
set_option maxRecDepth 100000 in
theorem arg_u32s {H : Type} {enc : TypeId × Value → H} {W : World} {base : Nat} {v : Value} {d : DataW H} {ps : List MemPlace} (hval : Value.okWide Tryd.prog W .any base 34 v)
    (h : DataW.Trod enc Tryd.prog W 0 (fun _ => true) true 34 v d ps) : ∃ l, U32sArg W v l := by
  obtain ⟨a0, len0, cap0, rfl⟩ := okWide_slice Tryd.underlying34 hval
  obtain ⟨fuel, hf⟩ := h
  rcases Deep.open_slice1 Tryd.underlying34 cellsU32 hf with ⟨hc, _⟩ | ⟨a, len, cap, m, n, V, D, Pl, hc, _, hl, hm, hmm, hx, hall⟩
  · simp [Value.cells] at hc
    obtain ⟨rfl, rfl, rfl⟩ := hc
    exact ⟨[], .inl ⟨_, _, rfl, rfl⟩, by simp, by simp⟩
  · simp [Value.cells] at hc
    obtain ⟨rfl, rfl, rfl⟩ := hc
    simp only [if_true] at hmm
    subst hmm
    by_cases h0 : len0 = 0
    · subst h0
      exact ⟨[], .inl ⟨_, _, rfl, rfl⟩, by simp, by simp⟩
    · have hpos : 0 < m := by omega
      obtain ⟨b, o, sp⟩ := a
      have hx0 := (hall 0 hpos).1
      rw [add_zero] at hx0
      obtain rfl := plain_addr hx0
      have hb : b < W.heap.size := World.block_lt_of_cell? W _ hx0
      have hint : ∀ i, i < m → V i = .int .u32 ((intOf (V i)).toNat : Nat) ∧ (intOf (V i)).toNat < 4294967296 := by
        intro i hi
        obtain ⟨x, h1, _, hw⟩ := DataW.trod_int Tryd.underlying22 (hall i hi).2
        simp only [List.cons.injEq, and_true] at h1
        have hn := Bool.and_eq_true_iff.1 hw
        have h1' : (0 : Int) ≤ x := of_decide_eq_true hn.1
        have h2' : x ≤ 4294967295 := of_decide_eq_true hn.2
        rw [h1]
        show Value.int .u32 x = .int .u32 ((x.toNat : Nat) : Int) ∧ x.toNat < 4294967296
        exact ⟨by rw [Int.toNat_of_nonneg h1'], by omega⟩
      refine ⟨(List.range len0).map fun i => (intOf (V i)).toNat, .inr ⟨b, o, m, by rw [List.length_map, List.length_range], hb, ?_⟩, ?_, ?_⟩
      · intro i x hx
        rw [List.getElem?_map, Option.map_eq_some_iff] at hx
        obtain ⟨j, hj, rfl⟩ := hx
        have hj2 := List.getElem?_eq_some_iff.1 hj
        obtain ⟨hj1, hj2⟩ := hj2
        rw [List.length_range] at hj1
        rw [List.getElem_range] at hj2
        subst hj2
        have h1 := (hall i (by omega)).1
        rw [add_none, (hint i (by omega)).1] at h1
        exact h1
      · intro x hx
        obtain ⟨i, hi, rfl⟩ := List.mem_map.1 hx
        have := List.mem_range.1 hi
        exact (hint i (by omega)).2
      · rw [List.length_map, List.length_range]
        unfold maxLen at hm
        omega
end Go.Proofs.YtbggcofnopaloabDoor
