/- The list of steps that was handed in lies as the play wants it. -/
import Derived.Test.YtogifpilfckenaaDoorJ25
import Derived.Test.YtogifpilfckenaaDoorLaid
import Derived.SizedLaws
namespace Go.Proofs.YtogifpilfckenaaDoor
open Go.ChangeShapes Go.WideShapes Go.ChangeAt Go.RowKit Go.Shelf Sx

theorem cellsStep : Tryd.prog.cellsOf 50 = 10 := by kernel_rfl
theorem cellsBool : Tryd.prog.cellsOf 4 = 1 := by kernel_rfl
theorem cellsPairsT : Tryd.prog.cellsOf 26 = 1 := by kernel_rfl
theorem cellsBools : Tryd.prog.cellsOf 35 = 1 := by kernel_rfl
theorem bytesPair : Tryd.prog.bytesOf 29 = 16 := by kernel_rfl
theorem add_none (b o k : Nat) : (⟨b, o, none⟩ : Addr).add k = ⟨b, o + k, none⟩ := by
  unfold Addr.add
  split
  · rename_i e; subst e; rfl
  · rfl
theorem add_zero_ (a : Addr) : a.add 0 = a := by
  unfold Addr.add
  rw [if_pos rfl]
theorem cell_some_none {W : World} {b o k : Nat} {v : Value} (h : W.cell? ((⟨b, o, some k⟩ : Addr).add 0) = some v) : False := by
  rw [add_zero_] at h
  simp only [World.cell?] at h
  split at h <;> simp at h
section
variable {H : Type} {enc : TypeId × Value → H} {W : World}
set_option maxRecDepth 100000 in
theorem trod_pairs {n : Nat} {V : Value} {D : DataW H} {Ps : List MemPlace} (hf : DataW.trod enc Tryd.prog W 0 (fun _ => true) true n 26 [V] = some (D, Ps)) :
    ∃ l, PArg W V l ∧ (l.length = 0 ∨ ∃ es sp, D = .slice es sp ∧ es.length = l.length) := by
  rcases Deep.open_slice_pairs Tryd.underlying26 Tryd.underlying29 cellsPair rfl rfl cellsInt cellsInt hf with ⟨hc, _⟩ | ⟨a, len, cap, m, n, V0, V1, D0, D1, P0, P1, hc, _, hl, hm, hmm, hD, hall⟩
  · simp only [List.cons.injEq, and_true] at hc
    subst hc
    exact ⟨[], .inl ⟨_, _, rfl, rfl⟩, .inl rfl⟩
  · simp only [List.cons.injEq, and_true] at hc
    subst hc
    simp only [if_true] at hmm
    subst hmm
    by_cases h0 : len = 0
    · subst h0
      exact ⟨[], .inl ⟨_, _, rfl, rfl⟩, .inl rfl⟩
    · have hpos : 0 < m := by omega
      obtain ⟨b, o, sp⟩ := a
      have hx := (hall 0 hpos).1
      have hsp : sp = none := by
        cases sp with
        | none => rfl
        | some k => exact (cell_some_none hx).elim
      subst hsp
      have hb : b < W.heap.size := World.block_lt_of_cell? W _ hx
      have hint : ∀ i, i < m → V0 i = .int .i64 (intOf (V0 i)) ∧ V1 i = .int .i64 (intOf (V1 i)) := by
        intro i hi
        obtain ⟨x, h1, _, _⟩ := DataW.trod_int Tryd.underlying3 (hall i hi).2.2.1
        obtain ⟨y, h2, _, _⟩ := DataW.trod_int Tryd.underlying3 (hall i hi).2.2.2
        simp only [List.cons.injEq, and_true] at h1 h2
        rw [h1, h2]
        exact ⟨rfl, rfl⟩
      simp only [Prod.mk.injEq] at hD
      refine ⟨(List.range len).map fun i => (intOf (V0 i), intOf (V1 i)), .inr ⟨b, o, m, by rw [List.length_map, List.length_range], ⟨hb, ?_, ?_⟩, by rw [List.length_map, List.length_range]; simp only [maxLen] at hm; omega⟩, .inr ⟨_, _, hD.1, by simp⟩⟩
      · intro i x hx
        rw [List.getElem?_map, Option.map_eq_some_iff] at hx
        obtain ⟨j, hj, rfl⟩ := hx
        obtain ⟨hj1, rfl⟩ := range_at hj
        have h1 := (hall i (by omega)).1
        rw [add_none, (hint i (by omega)).1] at h1
        exact h1
      · intro i x hx
        rw [List.getElem?_map, Option.map_eq_some_iff] at hx
        obtain ⟨j, hj, rfl⟩ := hx
        obtain ⟨hj1, rfl⟩ := range_at hj
        have h1 := (hall i (by omega)).2.1
        rw [add_none, (hint i (by omega)).2] at h1
        exact h1
def boolOf : Value → Bool
  | .bool b => b
  | _ => false
theorem trod_bools {n : Nat} {V : Value} {x : DataW H × List MemPlace} (hf : DataW.trod enc Tryd.prog W 0 (fun _ => true) true n 35 [V] = some x) : ∃ l, SetAt W V l := by
  rcases DataW.trod_slice Tryd.underlying35 hf with ⟨hc, _⟩ | ⟨a, len, cap, elems, rest, m, _, hc, _, _, hl, hm, he, hall, _, _⟩
  · simp only [List.cons.injEq, and_true] at hc
    subst hc
    exact ⟨[], .inl ⟨_, _, rfl, rfl⟩⟩
  · simp only [List.cons.injEq, and_true] at hc
    subst hc
    by_cases h0 : len = 0
    · subst h0
      exact ⟨[], .inl ⟨_, _, rfl, rfl⟩⟩
    · have key : ∀ i, i < len → ∃ b, W.cell? (a.add i) = some (.bool b) := by
        intro i hi
        have h := hall i hi
        rw [cellsBool, List.getElem?_eq_getElem (by omega), Option.bind_eq_some_iff] at h
        obtain ⟨cs, h1, h2⟩ := h
        obtain ⟨b, rfl, _⟩ := DataW.trod_bool Tryd.underlying4 h2
        have h3 := (World.cells?_some h1).2.2 0 (by omega)
        rw [Nat.mul_one] at h3
        exact ⟨b, by simpa [Addr.add] using h3⟩
      obtain ⟨b, o, sp⟩ := a
      obtain ⟨b0, hb0⟩ := key 0 (by omega)
      have hsp : sp = none := by
        cases sp with
        | none => rfl
        | some k => exact (cell_some_none hb0).elim
      subst hsp
      have hb : b < W.heap.size := World.block_lt_of_cell? W _ hb0
      refine ⟨(List.range len).map fun i => boolOf ((W.cell? ⟨b, o + i, none⟩).getD (.bool false)), .inr ⟨b, o, cap, by simp, ⟨hb, ?_⟩⟩⟩
      intro i y hy
      rw [List.getElem?_map, Option.map_eq_some_iff] at hy
      obtain ⟨j, hj, rfl⟩ := hy
      obtain ⟨hj1, rfl⟩ := range_at hj
      obtain ⟨u, hu⟩ := key i hj1
      rw [add_none] at hu
      rw [hu]
      rfl
set_option maxRecDepth 100000 in
theorem step_ok {n b o : Nat} {cs : List Value} {x : DataW H × List MemPlace} (hc : ∀ j, j < 10 → W.cell? ⟨b, o + j, none⟩ = cs[j]?) (hl : cs.length = 10)
    (h : DataW.trod enc Tryd.prog W 0 (fun _ => true) true n 50 cs = some x) (hz : ∀ k ∈ x.1.weights Tryd.prog 50, k ≤ reachBytes) : StepOK W b o := by
  obtain ⟨xs, m, _, rfl, _, hxl, hf⟩ := DataW.trod_struct Tryd.underlying50 h
  match cs, hl, xs, hxl with
  | [v0, v1, v2, v3, v4, v5, v6, v7, v8, v9], _, [y0, y1, y2, y3, y4, y5, y6, y7, y8, y9], _ =>
    have g0 := hf 0 _ rfl
    have g1 := hf 1 _ rfl
    have g2 := hf 2 _ rfl
    have g3 := hf 3 _ rfl
    have g4 := hf 4 _ rfl
    have g5 := hf 5 _ rfl
    have g6 := hf 6 _ rfl
    have g7 := hf 7 _ rfl
    have g8 := hf 8 _ rfl
    have g9 := hf 9 _ rfl
    simp [cellsInt, cellsBool, cellsPairsT, cellsBools] at g0 g1 g2 g3 g4 g5 g6 g7 g8 g9
    obtain ⟨op, e0, _⟩ := DataW.trod_int Tryd.underlying3 g0
    obtain ⟨s, e1, _⟩ := DataW.trod_int Tryd.underlying3 g1
    obtain ⟨t, e2, _⟩ := DataW.trod_int Tryd.underlying3 g2
    obtain ⟨to, e3, _⟩ := DataW.trod_int Tryd.underlying3 g3
    obtain ⟨a, e4, _⟩ := DataW.trod_int Tryd.underlying3 g4
    obtain ⟨c, e5, _⟩ := DataW.trod_int Tryd.underlying3 g5
    obtain ⟨v, e6, _⟩ := DataW.trod_bool Tryd.underlying4 g6
    obtain ⟨lp, hp, hpl⟩ := trod_pairs g7
    obtain ⟨lr, hr⟩ := trod_bools g8
    obtain ⟨lc, hcl⟩ := trod_bools g9
    simp only [List.cons.injEq, and_true] at e0 e1 e2 e3 e4 e5 e6
    subst e0; subst e1; subst e2; subst e3; subst e4; subst e5; subst e6
    have hbnd : lp.length * 16 ≤ 140737488355328 := by
      rcases hpl with h0 | ⟨es, sp, h1, h2⟩
      · omega
      · have hw := hz ((es.length + sp.length) * 16) (by
          simp only [DataW.weights, Tryd.underlying50]
          refine DataW.weights_mem_each (j := 7) (t := 26) (d := y7.1) rfl rfl _ ?_
          rw [h1]
          simp [DataW.weights, Tryd.underlying26, bytesPair])
        simp only [reachBytes] at hw
        omega
    exact ⟨op, s, t, to, a, c, v, v7, v8, v9, lp, lr, lc, ⟨hc 0 (by omega), hc 1 (by omega), hc 2 (by omega), hc 3 (by omega), hc 4 (by omega), hc 5 (by omega), hc 6 (by omega), hc 7 (by omega), hc 8 (by omega), hc 9 (by omega)⟩, hp, hbnd, hr, hcl⟩
theorem weightsAll_mem {P : Program} {e : TypeId} : ∀ {l : List (DataW H)} {i : Nat} {d : DataW H}, l[i]? = some d → ∀ k ∈ d.weights P e, k ∈ DataW.weightsAll P e l
  | x :: l, 0, d, h, k, hk => by
    simp only [List.getElem?_cons_zero, Option.some.injEq] at h
    subst h
    simp only [DataW.weightsAll, List.mem_append]
    exact .inl hk
  | x :: l, i + 1, d, h, k, hk => by
    simp only [List.getElem?_cons_succ] at h
    simp only [DataW.weightsAll, List.mem_append]
    exact .inr (weightsAll_mem h k hk)
  | [], i, d, h, _, _ => by simp at h
set_option maxRecDepth 100000 in
theorem arg_steps {base : Nat} {v : Value} {d : DataW H} {ps : List MemPlace} (hval : Value.okWide Tryd.prog W .any base 42 v)
    (h : DataW.Trod enc Tryd.prog W 0 (fun _ => true) true 42 v d ps) (hz : ∀ k ∈ d.weights Tryd.prog 42, k ≤ reachBytes) : ∃ N, StepsAt W v N := by
  obtain ⟨a0, len0, cap0, rfl⟩ := okWide_slice Tryd.underlying42 hval
  obtain ⟨fuel, hf⟩ := h
  rcases DataW.trod_slice Tryd.underlying42 hf with ⟨hc, _⟩ | ⟨a, len, cap, elems, rest, m, _, hc, hx, _, hl, hm, he, hall, _, _⟩
  · simp [Value.cells] at hc
    obtain ⟨rfl, rfl, rfl⟩ := hc
    exact ⟨0, none, 0, rfl, fun i hi => absurd hi (by omega)⟩
  · simp [Value.cells] at hc
    obtain ⟨rfl, rfl, rfl⟩ := hc
    simp only [Prod.mk.injEq] at hx
    obtain ⟨rfl, _⟩ := hx
    refine ⟨len0, _, _, rfl, fun i hi => ?_⟩
    have h := hall i hi
    rw [cellsStep, List.getElem?_eq_getElem (by omega), Option.bind_eq_some_iff] at h
    obtain ⟨cs, h1, h2⟩ := h
    obtain ⟨_, hcl, hcc⟩ := World.cells?_some h1
    obtain ⟨b, o, sp⟩ := a
    have hsp : sp = none := by
      cases sp with
      | none => rfl
      | some k =>
        have h := hall 0 (by omega)
        rw [cellsStep, List.getElem?_eq_getElem (by omega), Option.bind_eq_some_iff] at h
        obtain ⟨cs0, h10, _⟩ := h
        obtain ⟨_, hcl0, hcc0⟩ := World.cells?_some h10
        have h3 := hcc0 0 (by omega)
        rw [List.getElem?_eq_getElem (by omega), Nat.zero_mul, add_zero_ (⟨b, o, some k⟩ : Addr)] at h3
        exact (cell_some_none h3).elim
    subst hsp
    have hcc' : ∀ j, j < 10 → W.cell? ⟨b, o + i * 10 + j, none⟩ = cs[j]? := by
      intro j hj
      have := hcc j hj
      rw [add_none, add_none] at this
      exact this
    have hb : b < W.heap.size := World.block_lt_of_cell? W _ ((hcc' 0 (by omega)).trans (List.getElem?_eq_getElem (by omega)))
    refine ⟨b, o, rfl, hb, step_ok hcc' hcl h2 (fun k hk => hz k ?_)⟩
    simp only [DataW.weights, Tryd.underlying42, List.mem_cons, List.mem_append]
    exact .inr (.inl (weightsAll_mem (i := i) (by rw [List.getElem?_map, List.getElem?_eq_getElem (by omega)]; rfl) k hk))
end
end Go.Proofs.YtogifpilfckenaaDoor
