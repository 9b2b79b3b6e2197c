/- Two lists of bytes of our own, grown by turns: a string's bytes behind one, one byte behind one. -/
import Derived.Test.YtkgppagpjbkhmaaDoorLxFirst
import Derived.Lib.AppendStr
namespace Go.Proofs.YtkgppagpjbkhmaaDoor
open Go.RowKit Go.Shelf

theorem Tryd.undStr : Tryd.prog.underlying 9 = some .string := by kernel_rfl
theorem strCells_enc (s : ByteArray) : Lib.strCells s = encB s.data.toList := rfl
/-- append(b, s...): where the row lies then. -/
theorem run_append_str_at (W : World) (ty : TypeId) (base g cap n : Nat) (xs : List Value) (hown : W.ownsRow base 5 1 (.slice (some ⟨g, 0, none⟩) n cap) n xs) (s : ByteArray) (h63 : n + s.size ≤ 140737488355328) (hbase : base ≤ W.heap.size) :
    ∃ v' w', (Builtin.append_ #[32, 9] ty #[.slice (some ⟨g, 0, none⟩) n cap, .string s]).run Tryd.prog W = .ok v' w' ∧ w'.ownsRow base 5 1 v' (n + s.size) (xs ++ Lib.strCells s) ∧ W.grownBy w' (some g) ∧ ∃ g' cap', v' = .slice (some ⟨g', 0, none⟩) (n + s.size) cap' ∧ (g' = g ∨ g' = W.heap.size) := by
  obtain ⟨i0, hi, hz0, hz1, hz2⟩ := info_parts Tryd.infou8
  obtain ⟨v', w', hr, h2, h3, h4⟩ := Lib.run_append_own_string (P := Tryd.prog) W base 32 9 ty 5 i0 Tryd.underlying32 Tryd.undStr hi hz0 hz1 hz2 _ n xs hown s (by unfold maxLen; omega) h63 hbase
  refine ⟨v', w', hr, h2, h3, ?_⟩
  rcases id hown.2 with ⟨e, _⟩ | ⟨g0, cap0, cur, e, _, hg, hle, _, hcs, _⟩
  · exact absurd e (by simp)
  · cases e
    by_cases hroom : n + s.size ≤ cap
    · have hr2 := Lib.run_append_room_string (P := Tryd.prog) W 32 9 ty 5 i0 Tryd.underlying32 Tryd.undStr hi hz1 g n cap cur hg s hroom (by omega)
      rw [hr2] at hr
      cases hr
      exact ⟨g, cap, rfl, Or.inl rfl⟩
    · have holds : ∀ j u, xs[j]? = some u → W.cell? ((⟨g, 0, none⟩ : Addr).add j) = some u := hown.cells (g := g) rfl
      have hxl : xs.length = n * i0.size := by rw [hz1]; exact hown.1
      have hr2 := Lib.run_append_grow_string (P := Tryd.prog) W 32 9 ty 5 i0 (.int .u8 0) Tryd.underlying32 Tryd.undStr hi hz0 ⟨g, 0, none⟩ n cap xs hxl holds s (by omega) (by omega) (by rw [hz2]; exact growslice_fits (by omega) (by omega))
      rw [hr2] at hr
      cases hr
      exact ⟨W.heap.size, _, rfl, Or.inr rfl⟩
theorem wpList_append_str {W : World} {ops : Array Oper} {rest : List Oper} {o : Oper} {a : Act} {Q : Exit → Act → World → Prop} (hgd : o.guard = none) (sl x : Operand)
    (ho : o.op = .call { callee := .builtin .append, args := #[sl, x], argTypes := #[32, 9] }) (base g cap n : Nat) (xs : List Value) (hs : a.eval sl = .slice (some ⟨g, 0, none⟩) n cap) (hown : W.ownsRow base 5 1 (.slice (some ⟨g, 0, none⟩) n cap) n xs) (s : ByteArray) (hx : a.eval x = .string s) (h63 : n + s.size ≤ 140737488355328) (hbase : base ≤ W.heap.size)
    (h : ∀ g' cap' w', w'.ownsRow base 5 1 (.slice (some ⟨g', 0, none⟩) (n + s.size) cap') (n + s.size) (xs ++ Lib.strCells s) → W.grownBy w' (some g) → (g' = g ∨ g' = W.heap.size) → wpList Tryd.prog ops Q rest (a.put o.dst (.slice (some ⟨g', 0, none⟩) (n + s.size) cap')) w') : wpList Tryd.prog ops Q (o :: rest) a W := by
  refine wpList_plain hgd fun K hK => ?_
  obtain ⟨v', w', hr, h2, h3, g', cap', rfl, h4⟩ := run_append_str_at W o.type base g cap n xs hown s h63 hbase
  unfold Oper.wp execOp
  simp only [ho, resolve, invoke, builtin, Sem.run_bind, Sem.run_pure, Result.andThen_ok, List.map_toArray, List.map_cons, List.map_nil, hs, hx, hr]
  exact hK _ _ (h g' cap' w' h2 h3 h4)
/-- Two lists of our own, in two blocks. -/
structure Two (w W : World) (g1 c1 : Nat) (a : List UInt8) (g2 c2 : Nat) (b : List UInt8) : Prop where
  own1 : W.ownsRow w.heap.size 5 1 (.slice (some ⟨g1, 0, none⟩) a.length c1) a.length (encB a)
  own2 : W.ownsRow w.heap.size 5 1 (.slice (some ⟨g2, 0, none⟩) b.length c2) b.length (encB b)
  ne : g1 ≠ g2
  below : Below w.heap.size w W
theorem encB_app (a b : List UInt8) : encB (a ++ b) = encB a ++ encB b := by unfold encB; rw [List.map_append]
theorem Two.lt {w W : World} {g1 c1 g2 c2 : Nat} {a b : List UInt8} (h : Two w W g1 c1 a g2 c2 b) : (w.heap.size ≤ g1 ∧ g1 < W.heap.size) ∧ w.heap.size ≤ g2 ∧ g2 < W.heap.size := ⟨h.own1.lt g1 rfl, h.own2.lt g2 rfl⟩
theorem Two.more1 {w W W' : World} {g1 c1 g2 c2 g' c' : Nat} {a b l : List UInt8} (h : Two w W g1 c1 a g2 c2 b) (hown : W'.ownsRow w.heap.size 5 1 (.slice (some ⟨g', 0, none⟩) (a.length + l.length) c') (a.length + l.length) (encB a ++ encB l)) (hg : W.grownBy W' (some g1)) (hat : g' = g1 ∨ g' = W.heap.size) : Two w W' g' c' (a ++ l) g2 c2 b := by
  have hl := h.lt
  refine ⟨?_, h.own2.kept hg (Or.inr (fun e => h.ne (Option.some.inj e).symm)), ?_, h.below.grown hg h.below.size (fun k e => by cases e; exact hl.1.1)⟩
  · rw [List.length_append, encB_app]; exact hown
  · rcases hat with rfl | rfl
    · exact h.ne
    · omega
theorem Two.more2 {w W W' : World} {g1 c1 g2 c2 g' c' : Nat} {a b l : List UInt8} (h : Two w W g1 c1 a g2 c2 b) (hown : W'.ownsRow w.heap.size 5 1 (.slice (some ⟨g', 0, none⟩) (b.length + l.length) c') (b.length + l.length) (encB b ++ encB l)) (hg : W.grownBy W' (some g2)) (hat : g' = g2 ∨ g' = W.heap.size) : Two w W' g1 c1 a g' c' (b ++ l) := by
  have hl := h.lt
  refine ⟨h.own1.kept hg (Or.inr (fun e => h.ne (Option.some.inj e))), ?_, ?_, h.below.grown hg h.below.size (fun k e => by cases e; exact hl.2.1)⟩
  · rw [List.length_append, encB_app]; exact hown
  · rcases hat with rfl | rfl
    · exact h.ne
    · omega
theorem Two.alloc {w W : World} {g1 c1 g2 c2 : Nat} {a b : List UInt8} (h : Two w W g1 c1 a g2 c2 b) (o : Obj) : Two w (W.alloc o) g1 c1 a g2 c2 b := ⟨h.own1.alloc _, h.own2.alloc _, h.ne, h.below.alloc h.below.size _⟩
theorem ownsB_below {w w' : World} {base : Nat} {v : Value} {n : Nat} {xs : List Value} (h : w.ownsRow base 5 1 v n xs) (hb : Below w.heap.size w w') : w'.ownsRow base 5 1 v n xs := by
  obtain ⟨h1, h2⟩ := h
  refine ⟨h1, ?_⟩
  rcases h2 with h2 | ⟨g, cap, cs, e, h3, h4, h5⟩
  · exact .inl h2
  · exact .inr ⟨g, cap, cs, e, h3, (hb.block g (Blk.lt (t := 5) (cs := cs) h4)).trans h4, h5⟩
theorem Two.to {w W W' : World} {g1 c1 g2 c2 : Nat} {a b : List UInt8} (h : Two w W g1 c1 a g2 c2 b) (hb : Below W.heap.size W W') : Two w W' g1 c1 a g2 c2 b := ⟨ownsB_below h.own1 hb, ownsB_below h.own2 hb, h.ne, below_step h.below h.below.size hb⟩
theorem own_bytes {W : World} {base g cap : Nat} {acc : List UInt8} (h : W.ownsRow base 5 1 (.slice (some ⟨g, 0, none⟩) acc.length cap) acc.length (encB acc)) : BytesR W (.slice (some ⟨g, 0, none⟩) (⟨acc.toArray⟩ : ByteArray).size cap) ⟨acc.toArray⟩ := by
  have hz : (⟨acc.toArray⟩ : ByteArray).size = acc.length := by show acc.toArray.size = _; simp
  refine .inr ⟨g, 0, cap, rfl, (h.lt g rfl).2, ?_⟩
  intro j hj
  have hj' : j < acc.length := by simpa using hj
  rw [Nat.zero_add, h.cellAt j (by omega)]
  unfold encB
  rw [List.getElem?_map, List.getElem?_eq_getElem hj']
  simp
end Go.Proofs.YtkgppagpjbkhmaaDoor
