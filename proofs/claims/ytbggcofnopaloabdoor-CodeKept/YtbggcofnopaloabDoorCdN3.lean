/- Arguments that are lists. -/
import Derived.Test.YtbggcofnopaloabDoorCdLaid
import Derived.Test.YtbggcofnopaloabDoorJ13
import Derived.Deep.Slices
namespace Go.Proofs.YtbggcofnopaloabDoor
open Go.ChangeShapes Go.WideShapes Go.ChangeAt Go.RowKit Go.Shelf Go.Deep Sx
theorem add_none (b o k : Nat) : (⟨b, o, none⟩ : Addr).add k = ⟨b, o + k, none⟩ := by
  unfold Addr.add
  split
  · rename_i e; subst e; rfl
  · rfl
theorem add_zero (a : Addr) : a.add 0 = a := by unfold Addr.add; rw [if_pos rfl]
theorem plain_addr {W : World} {b o : Nat} {sp : Option Nat} {v : Value} (h : W.cell? ⟨b, o, sp⟩ = some v) : sp = none := by
  cases sp with
  | none => rfl
  | some j =>
    simp only [World.cell?] at h
    split at h <;> simp at h
set_option maxRecDepth 100000 in
theorem arg_inss {H : Type} {enc : TypeId × Value → H} {W : World} {base : Nat} {v : Value} {d : DataW H} {ps : List MemPlace} (hval : Value.okWide Tryd.prog W .any base 33 v)
    (h : DataW.Trod enc Tryd.prog W 0 (fun _ => true) true 33 v d ps) : ∃ l, InssArg W v l := by
  obtain ⟨a0, len0, cap0, rfl⟩ := okWide_slice Tryd.underlying33 hval
  obtain ⟨fuel, hf⟩ := h
  rcases Deep.open_slice Tryd.underlying33 hf with ⟨hc, _⟩ | ⟨a, len, cap, m, n, D, Pl, hc, _, hl, hm, hmm, hx, hall⟩
  · simp [Value.cells] at hc
    obtain ⟨rfl, rfl, rfl⟩ := hc
    exact ⟨[], .inl ⟨_, _, rfl, rfl⟩, by simp, by simp⟩
  · simp [Value.cells] at hc
    obtain ⟨rfl, rfl, rfl⟩ := hc
    simp only [if_true] at hmm
    subst hmm
    by_cases h0 : len0 = 0
    · subst h0
      exact ⟨[], .inl ⟨_, _, rfl, rfl⟩, by simp, by simp⟩
    · have each : ∀ i, i < m → ∃ x : Ins, (∀ (f : Nat) (u : Value), f < 6 → (insC x).toList[f]? = some u → W.cell? ((a.add (i * 6)).add f) = some u) ∧ (-9223372036854775808 ≤ x.op ∧ x.op ≤ 9223372036854775807) := by
        intro i hi
        obtain ⟨cs', h1, h2⟩ := hall i hi
        rw [cellsIns] at h1
        obtain ⟨_, hlen, hcell⟩ := World.cells?_some h1
        obtain ⟨xs, k, _, hxy, hcl, hxl, hfs⟩ := DataW.trod_struct Tryd.underlying25 h2
        match cs', hlen, xs, hxl with
        | [v0, v1, v2, v3, v4, v5], _, [y0, y1, y2, y3, y4, y5], _ =>
          have g0 := hfs 0 _ rfl
          have g1 := hfs 1 _ rfl
          have g2 := hfs 2 _ rfl
          have g3 := hfs 3 _ rfl
          have g4 := hfs 4 _ rfl
          have g5 := hfs 5 _ rfl
          simp [cellsInt, cellsI64] at g0 g1 g2 g3 g4 g5
          obtain ⟨x0, e0, _, w0⟩ := DataW.trod_int Tryd.underlying3 g0
          obtain ⟨x1, e1, _, w1⟩ := DataW.trod_int Tryd.underlying3 g1
          obtain ⟨x2, e2, _, w2⟩ := DataW.trod_int Tryd.underlying3 g2
          obtain ⟨x3, e3, _, w3⟩ := DataW.trod_int Tryd.underlying3 g3
          obtain ⟨x4, e4, _, w4⟩ := DataW.trod_int Tryd.underlying2 g4
          obtain ⟨x5, e5, _, w5⟩ := DataW.trod_int Tryd.underlying3 g5
          simp only [List.cons.injEq, and_true] at e0 e1 e2 e3 e4 e5
          subst e0 e1 e2 e3 e4 e5
          exact ⟨⟨x0, x1, x2, x3, x4, x5⟩, fun f u hf hu => (hcell f hf).trans hu, wf_i64 w0⟩
      haveI : Inhabited Ins := ⟨zeroI⟩
      obtain ⟨X, hX⟩ := choose_lt each
      obtain ⟨b, o, sp⟩ := a
      have hx0 := (hX 0 (by omega)).1 0 _ (by omega) rfl
      rw [Nat.zero_mul, add_zero, add_zero] at hx0
      obtain rfl := plain_addr hx0
      have hb : b < W.heap.size := World.block_lt_of_cell? W _ hx0
      refine ⟨(List.range len0).map X, .inr ⟨b, o, m, by rw [List.length_map, List.length_range], hb, ?_⟩, ?_, ?_⟩
      · intro i x hx
        rw [List.getElem?_map, Option.map_eq_some_iff] at hx
        obtain ⟨j, hj, rfl⟩ := hx
        obtain ⟨hj1, hj2⟩ := List.getElem?_eq_some_iff.1 hj
        rw [List.length_range] at hj1
        rw [List.getElem_range] at hj2
        subst hj2
        have key := (hX i (by omega)).1
        simp only [add_none] at key
        exact ⟨key 0 _ (by omega) rfl, key 1 _ (by omega) rfl, key 2 _ (by omega) rfl, key 3 _ (by omega) rfl, key 4 _ (by omega) rfl, key 5 _ (by omega) rfl⟩
      · intro x hx
        obtain ⟨i, hi, rfl⟩ := List.mem_map.1 hx
        have := List.mem_range.1 hi
        exact (hX i (by omega)).2
      · rw [List.length_map, List.length_range]
        unfold maxLen at hm
        omega
end Go.Proofs.YtbggcofnopaloabDoor
