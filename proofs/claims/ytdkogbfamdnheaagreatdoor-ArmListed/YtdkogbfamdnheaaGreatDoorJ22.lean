import Derived.Test.YtdkogbfamdnheaaGreatDoorJ21
import Derived.Deep.AppendSrc
namespace Go.Proofs.YtdkogbfamdnheaaGreatDoor
open Go.RowKit Go.Shelf Sx
set_option maxRecDepth 100000
set_option maxHeartbeats 16000000
set_option linter.unusedSimpArgs false
set_option linter.unusedVariables false
def Qam (l : List (Int × Int)) : List Value := l.flatMap (fun x => [.int .i64 x.1, .int .i64 x.2])
theorem Qd2 (l : List (Int × Int)) : (Qam l).length = l.length * 2 := by
 induction l with
 | nil => rfl
 | cons x l ih => simp only [Qam, List.flatMap_cons, List.length_append, List.length_cons, List.length_nil] at ih ⊢; omega
theorem Qiu : ∀ (l : List (Int × Int)) (i : Nat) (x : Int × Int), l[i]? = some x → (Qam l)[i * 2]? = some (.int .i64 x.1) ∧ (Qam l)[i * 2 + 1]? = some (.int .i64 x.2)
 | [], i, x, h => by simp at h
 | y :: l, 0, x, h => by
  simp only [List.getElem?_cons_zero, Option.some.injEq] at h
  subst h
  exact ⟨rfl, rfl⟩
 | y :: l, i + 1, x, h => by
  rw [List.getElem?_cons_succ] at h
  have := Qiu l i x h
  rw [show (i + 1) * 2 = i * 2 + 1 + 1 by omega]
  exact this
theorem Qjw : ∀ (l : List (Int × Int)) (j : Nat) (u : Value), (Qam l)[j]? = some u → ∃ i x, l[i]? = some x ∧ ((j = i * 2 ∧ u = .int .i64 x.1) ∨ (j = i * 2 + 1 ∧ u = .int .i64 x.2))
 | [], j, u, h => by simp [Qam] at h
 | y :: l, 0, u, h => by
  have h : some (Value.int .i64 y.1) = some u := h
  injection h with h
  exact ⟨0, y, rfl, .inl ⟨rfl, h.symm⟩⟩
 | y :: l, 1, u, h => by
  have h : some (Value.int .i64 y.2) = some u := h
  injection h with h
  exact ⟨0, y, rfl, .inr ⟨rfl, h.symm⟩⟩
 | y :: l, j + 2, u, h => by
  have h : (Qam l)[j]? = some u := h
  obtain ⟨i, x, h1, h2⟩ := Qjw l j u h
  exact ⟨i + 1, x, h1, h2.imp (fun h => ⟨oW, h.2⟩) (fun h => ⟨oW, h.2⟩)⟩
theorem Qv4 (l : List (Int × Int)) : ∀ u ∈ Qam l, u.oneCell' = true := by
 intro u hu
 obtain ⟨j, hj⟩ := List.getElem?_of_mem hu
 obtain ⟨i, x, _, ⟨_, rfl⟩ | ⟨_, rfl⟩⟩ := Qjw l j u hj <;> rfl
theorem Qg7 {P : Program} (w : World) (t ty e : TypeId) (i : TypeInfo) (ht : P.underlying t = some (.slice e)) (hi : P.info? e = some i) (x : Option Addr) (cap : Nat) :
  (Builtin.append_ #[t, t] ty #[.slice none 0 0, .slice x 0 cap]).run P w = .ok (.slice none 0 0) w := by
 have hc : (Builtin.firstCells i.size 0 (.slice x 0 cap)).run P w = .ok #[] w := by
  cases x with
  | none => exact run_firstCells_none w i.size 0 0 cap
  | some a => exact run_firstCells_some w i.size 0 a 0 cap [] sW (fun j u h => by simp at h)
 simp [Builtin.append_, run_underlying ht, sizeOf, typeInfo, hi, Builtin.lenOf, hc]
theorem Qgb (w : World) (r : Option Nat) : w.grownBy w r := ⟨rfl, rfl, rfl, Nat.le_refl _, fun _ _ _ => rfl⟩
theorem Qby {w : World} {ops : Array Oper} {rest : List Oper} {o : Oper} {a : Act} {Q : Exit → Act → World → Prop} (hgd : o.guard = none) (s x : Operand)
  (ho : o.op = .call { callee := .builtin .append, args := #[s, x], argTypes := #[24, 24] }) (hs : a.eval s = .slice none 0 0) (v : Value) (hx : a.eval x = v) (l : List (Int × Int)) (hP : PArg w v l) (hl : l.length * 16 ≤ 140737488355328)
  (h : ∀ v' w', w'.ownsRow w.heap.size 30 2 v' l.length (Qam l) → w.grownBy w' none → wpList Tryz.prog ops Q rest (a.put o.dst v') w') : wpList Tryz.prog ops Q (o :: rest) a w := by
 obtain ⟨i0, hi, hz0, hz1, hz2⟩ := info_parts Tryz.infopair
 rcases hP with ⟨x0, cap, rfl, rfl⟩ | ⟨s0, o0, cap, rfl, h2, _⟩
 ·refine wpList_plain hgd fun K hK => ?_
  have hrun := Qg7 (P := Tryz.prog) w 24 o.type 30 i0 Tryz.underlying24 hi x0 cap
  unfold Oper.wp
  simp [execOp, ho, resolve, invoke, builtin, hs, hx, hrun, Result.andThen]
  exact hK _ _ (h _ _ (World.ownsRow_nil _ _ _ _) (Qgb w none))
 ·refine wpList_append_own w hgd s x 24 ho w.heap.size 30 i0 (.agg #[.int .i64 0, .int .i64 0]) 2 16 Tryz.underlying24 hi hz0 hz1 hz2 rfl dW (.slice none 0 0) 0 [] hs (World.ownsRow_nil _ _ _ _) ⟨s0, o0, none⟩ l.length cap (Qam l) hx (Qd2 l) ?_ (Qv4 l) (by unfold maxLen; omega) oW nW ?_
  ·intro j u hj
   obtain ⟨i, y, hy, ⟨rfl, rfl⟩ | ⟨rfl, rfl⟩⟩ := Qjw l j u hj
   ·rw [Addr.add_lit]; exact h2.fst i y hy
   ·rw [Addr.add_lit]; exact h2.snd i y hy
  ·intro v' w' hown hg _
   rw [Nat.zero_add, List.nil_append] at hown
   exact h v' w' hown hg
theorem Qef {w : World} {base : Nat} {v : Value} {l : List (Int × Int)} (h : w.ownsRow base 30 2 v l.length (Qam l)) (hl : l.length * 16 ≤ 140737488355328) : PArg w v l := by
 rcases h.2 with ⟨e, e2⟩ | ⟨g, cap, cur, e, _, hb, _, _, _, ht⟩
 ·exact .inl ⟨none, 0, e.trans (by rw [e2] at *), List.eq_nil_of_length_eq_zero e2⟩
 ·have hb : Blk w g 30 cur := hb
  have key : ∀ j u, (Qam l)[j]? = some u → w.cell? ⟨g, j, none⟩ = some u := by
   intro j u hj
   apply hb.cell
   rw [← ht, List.getElem?_take] at hj
   split at hj
   ·rw [← Array.getElem?_toList]; exact hj
   ·cases hj
  refine .inr ⟨g, 0, cap, e, ⟨hb.lt, fun i x hx => ?_, fun i x hx => ?_⟩, oW⟩
  ·rw [Nat.zero_add]; exact key _ _ (Qiu l i x hx).1
  ·rw [Nat.zero_add]; exact key _ _ (Qiu l i x hx).2
theorem Qah {w w' : World} (h : w.grownBy w' none) : Below w.heap.size w w' := ⟨h.os, h.tape, h.output, h.size, fun k hk => h.block k hk sW⟩
def Qay (l : List Ev) : List Value := l.flatMap (fun e => [.int .i64 e.t, .int .i64 e.k, .int .i64 e.l, .int .u64 e.v, .int .i64 e.m])
theorem Qcm (l : List Ev) : (Qay l).length = l.length * 5 := by
 induction l with
 | nil => rfl
 | cons a l ih => simp only [Qay, List.flatMap_cons, List.length_append, List.length_cons, List.length_nil] at *; omega
theorem Qe7 (e : Ev) (l : List Ev) : Qay (e :: l) = .int .i64 e.t :: .int .i64 e.k :: .int .i64 e.l :: .int .u64 e.v :: .int .i64 e.m :: Qay l := rfl
theorem Qew : ∀ (l : List Ev) (i : Nat) (e : Ev) (j : Nat), l[i]? = some e → j < 5 → (Qay l)[i * 5 + j]? = Qgv e j
 | [], i, e, j, h, _ => by simp at h
 | a :: l, 0, e, j, h, hj => by
  obtain rfl : a = e := by simpa using h
  rw [Qe7]
  obtain rfl | rfl | rfl | rfl | rfl : j = 0 ∨ j = 1 ∨ j = 2 ∨ j = 3 ∨ j = 4 := by omega
  all_goals rfl
 | a :: l, i + 1, e, j, h, hj => by
  have ih := Qew l i e j (by simpa using h) hj
  rw [Qe7, show (i + 1) * 5 + j = i * 5 + j + 1 + 1 + 1 + 1 + 1 by omega]
  simp only [List.getElem?_cons_succ]
  exact ih
theorem Qg8 : ∀ (l : List Ev) (j : Nat) (u : Value), (Qay l)[j]? = some u → ∃ i e k, l[i]? = some e ∧ k < 5 ∧ j = i * 5 + k ∧ Qgv e k = some u := fun l j u h => by
 have hj : j < (Qay l).length := (List.getElem?_eq_some_iff.1 h).1
 rw [Qcm] at hj
 have hi : j / 5 < l.length := by omega
 refine ⟨j / 5, l[j / 5], j % 5, List.getElem?_eq_getElem hi, oW, oW, ?_⟩
 rw [← Qew l (j / 5) _ (j % 5) (List.getElem?_eq_getElem hi) oW, show j / 5 * 5 + j % 5 = j by omega]
 exact h
theorem Qma {e : Ev} {k : Nat} {u : Value} (h : Qgv e k = some u) : u.oneCell' = true := by
 unfold Qgv at h
 split at h
 all_goals first | (cases h; rfl) | cases h
theorem EvsAt.at {w : World} {s o : Nat} {l : List Ev} (h : EvsAt w s o l) {i k : Nat} {e : Ev} {u : Value} (he : l[i]? = some e) (hk : Qgv e k = some u) : w.cell? ⟨s, o + (i * 5 + k), none⟩ = some u := by
 unfold Qgv at hk
 split at hk
 ·cases hk; exact h.c0 i e he
 ·cases hk; exact h.c1 i e he
 ·cases hk; exact h.c2 i e he
 ·cases hk; exact h.c3 i e he
 ·cases hk; exact h.c4 i e he
 ·cases hk
theorem Tryz.infoev : (Tryz.prog.info? 34).map (fun i => (i.zero, i.size, i.bytes)) = some (some (.agg #[.int .i64 0, .int .i64 0, .int .i64 0, .int .u64 0, .int .i64 0]), 5, 40) := by kernel_rfl
theorem Qkk {w : World} {ops : Array Oper} {rest : List Oper} {o : Oper} {a : Act} {Q : Exit → Act → World → Prop} (hgd : o.guard = none) (s x : Operand)
  (ho : o.op = .call { callee := .builtin .append, args := #[s, x], argTypes := #[23, 23] }) (hs : a.eval s = .slice none 0 0) (v : Value) (hx : a.eval x = v) (l : List Ev) (hP : EvArg w v l)
  (h : ∀ v' w', w'.ownsRow w.heap.size 34 5 v' l.length (Qay l) → w.grownBy w' none → wpList Tryz.prog ops Q rest (a.put o.dst v') w') : wpList Tryz.prog ops Q (o :: rest) a w := by
 obtain ⟨i0, hi, hz0, hz1, hz2⟩ := info_parts Tryz.infoev
 obtain ⟨p, cap, rfl, hp, hl, _⟩ := hP
 by_cases h0 : 0 < l.length
 ·obtain ⟨s0, o0, rfl, h2⟩ := hp h0
  refine wpList_append_own w hgd s x 23 ho w.heap.size 34 i0 (.agg #[.int .i64 0, .int .i64 0, .int .i64 0, .int .u64 0, .int .i64 0]) 5 40 Tryz.underlying23 hi hz0 hz1 hz2 rfl dW (.slice none 0 0) 0 [] hs (World.ownsRow_nil _ _ _ _) ⟨s0, o0, none⟩ l.length cap (Qay l) hx (Qcm l) ?_ ?_ (by unfold maxLen; omega) oW nW ?_
  ·intro j u hj
   obtain ⟨i, e, k, he, _, rfl, hk⟩ := Qg8 l j u hj
   rw [Addr.add_lit]
   exact h2.at he hk
  ·intro u hu
   obtain ⟨j, hj⟩ := List.getElem?_of_mem hu
   obtain ⟨i, e, k, _, _, _, hk⟩ := Qg8 l j u hj
   exact Qma hk
  ·intro v' w' hown hg _
   rw [Nat.zero_add, List.nil_append] at hown
   exact h v' w' hown hg
 ·obtain rfl : l = [] := List.eq_nil_of_length_eq_zero oW
  refine wpList_plain hgd fun K hK => ?_
  have hrun := Qg7 (P := Tryz.prog) w 23 o.type 34 i0 Tryz.underlying23 hi p cap
  unfold Oper.wp
  rw [List.length_nil] at hx
  simp [execOp, ho, resolve, invoke, builtin, hs, hx, hrun, Result.andThen]
  exact hK _ _ (h _ _ (World.ownsRow_nil _ _ _ _) (Qgb w none))
theorem Qgc {w : World} {base : Nat} {v : Value} {l : List Ev} (h : w.ownsRow base 34 5 v l.length (Qay l)) (hl : l.length * 40 ≤ 140737488355328) : EvArg w v l := by
 rcases h.2 with ⟨e, e2⟩ | ⟨g, cap, cur, e, _, hb, hc, _, _, ht⟩
 ·exact ⟨none, 0, e.trans (by rw [e2]), fun h => by omega, hl, oW⟩
 ·have hb : Blk w g 34 cur := hb
  have key : ∀ j u, (Qay l)[j]? = some u → w.cell? ⟨g, j, none⟩ = some u := by
   intro j u hj
   apply hb.cell
   rw [← ht, List.getElem?_take] at hj
   split at hj
   ·rw [← Array.getElem?_toList]; exact hj
   ·cases hj
  refine ⟨_, cap, e, fun _ => ⟨g, 0, rfl, ⟨hb.lt, fun i x hx => ?_, fun i x hx => ?_, fun i x hx => ?_, fun i x hx => ?_, fun i x hx => ?_⟩⟩, hl, hc⟩
  ·rw [Nat.zero_add]; exact key _ _ (Qew l i x 0 hx oW)
  ·rw [Nat.zero_add]; exact key _ _ (Qew l i x 1 hx oW)
  ·rw [Nat.zero_add]; exact key _ _ (Qew l i x 2 hx oW)
  ·rw [Nat.zero_add]; exact key _ _ (Qew l i x 3 hx oW)
  ·rw [Nat.zero_add]; exact key _ _ (Qew l i x 4 hx oW)
theorem Qg9 {w : World} {base : Nat} {e : TypeId} {size : Nat} {v : Value} {n : Nat} {xs : List Value} (h : w.ownsRow base e size v n xs) {a : Addr} (hne : a.block < base) (u : Value) : (w.setCell a u).ownsRow base e size v n xs := by
 refine ⟨h.1, ?_⟩
 rcases h.2 with h2 | ⟨g, cap, cur, h3, h4, h5, h6⟩
 ·exact .inl h2
 ·exact .inr ⟨g, cap, cur, h3, h4, (Below.heap_setCell w a u g oW).trans h5, h6⟩
theorem Qcv {W W' : World} {base : Nat} {e : TypeId} {size : Nat} {v : Value} {n : Nat} {xs : List Value} (h : W.ownsRow base e size v n xs) (hk : ∀ g, v.ownBlock = some g → W'.heap[g]? = W.heap[g]?) : W'.ownsRow base e size v n xs := by
 refine ⟨h.1, ?_⟩
 rcases h.2 with h2 | ⟨g, cap, cur, rfl, hb, hg, rest⟩
 ·exact .inl h2
 ·exact .inr ⟨g, cap, cur, rfl, hb, (hk g rfl).trans hg, rest⟩
theorem Qcn {W : World} {base : Nat} {e : TypeId} {size : Nat} {v : Value} {n : Nat} {xs : List Value} (h : W.ownsRow base e size v n xs) {g : Nat} (hg : v.ownBlock = some g) : ∃ cur, Blk W g e cur := by
 rcases h.2 with ⟨rfl, _⟩ | ⟨g', cap, cur, rfl, hb, hg', _⟩
 ·cases hg
 ·simp [Value.ownBlock] at hg
  subst hg
  exact ⟨cur, hg'⟩
theorem Qex {W : World} {g : Nat} {e e' : TypeId} {c c' : Array Value} (h : Blk W g e c) (k : Blk W g e' c') : e = e' := by
 have := h.symm.trans k
 simp at this
 exact this.2
structure OwnL (W : World) (base : Nat) (vs : List Value) (ls : List (List Int)) : Prop where
 len : vs.length = ls.length
 row : ∀ (i : Nat) (x : Value) (l : List Int), vs[i]? = some x → ls[i]? = some l → W.ownsRow base 3 1 x l.length (Qaf l)
 apart : ∀ (i j : Nat) (x y : Value) (g : Nat), vs[i]? = some x → vs[j]? = some y → x.ownBlock = some g → y.ownBlock = some g → i = j
theorem OwnL.at_ {W : World} {base : Nat} {vs : List Value} {ls : List (List Int)} (h : OwnL W base vs ls) {i : Nat} {x : Value} (hx : vs[i]? = some x) : ∃ l, ls[i]? = some l ∧ W.ownsRow base 3 1 x l.length (Qaf l) := by
 have hi : i < vs.length := (List.getElem?_eq_some_iff.1 hx).1
 have hl : ls[i]? = some (ls[i]'(by have := h.len; omega)) := List.getElem?_eq_getElem _
 exact ⟨_, hl, h.row i x _ hx hl⟩
theorem OwnL.keep {W W' : World} {base : Nat} {vs : List Value} {ls : List (List Int)} (h : OwnL W base vs ls) (hk : ∀ (i : Nat) (x : Value) (g : Nat), vs[i]? = some x → x.ownBlock = some g → W'.heap[g]? = W.heap[g]?) : OwnL W' base vs ls :=
 ⟨h.len, fun i x l hx hl => Qcv (h.row i x l hx hl) (fun g hg => hk i x g hx hg), h.apart⟩
theorem OwnL.lt {W : World} {base : Nat} {vs : List Value} {ls : List (List Int)} (h : OwnL W base vs ls) {i : Nat} {x : Value} {g : Nat} (hx : vs[i]? = some x) (hg : x.ownBlock = some g) : base ≤ g ∧ g < W.heap.size := by
 obtain ⟨l, _, ho⟩ := h.at_ hx
 exact ho.lt g hg
theorem OwnL.step {W W' : World} {base : Nat} {vs : List Value} {ls : List (List Int)} (h : OwnL W base vs ls) (hb : Below W.heap.size W W') : OwnL W' base vs ls := h.keep (fun _ _ g hx hg => hb.block g (h.lt hx hg).2)
structure ClR (W : World) (base : Nat) (v : Value) (vs : List Value) (ls : List (List Int)) : Prop where
 own : W.ownsRow base 36 1 v vs.length vs
 rows : OwnL W base vs ls
theorem ClR.step {W W' : World} {base : Nat} {v : Value} {vs : List Value} {ls : List (List Int)} (h : ClR W base v vs ls) (hb : Below W.heap.size W W') : ClR W' base v vs ls := ⟨Qac h.own hb, h.rows.step hb⟩
theorem ClR.nil (W : World) (base : Nat) : ClR W base (.slice none 0 0) [] [] := ⟨World.ownsRow_nil _ _ _ _, rfl, fun i x l h => by simp at h, fun i j x y g h => by simp at h⟩
theorem ClR.ne {W : World} {base : Nat} {v : Value} {vs : List Value} {ls : List (List Int)} (h : ClR W base v vs ls) {i : Nat} {x : Value} {g : Nat} (hx : vs[i]? = some x) (hg : x.ownBlock = some g) : v.ownBlock ≠ some g := by
 intro e
 obtain ⟨l, _, ho⟩ := h.rows.at_ hx
 obtain ⟨c1, h1⟩ := Qcn ho hg
 obtain ⟨c2, h2⟩ := Qcn h.own e
 exact absurd (Qex h1 h2) dW
theorem ClR.add {W W5 : World} {base : Nat} {v v' x : Value} {vs : List Value} {ls : List (List Int)} {l : List Int} {o : Obj} (h : ClR W base v vs ls) (hx : W.ownsRow base 3 1 x l.length (Qaf l)) (hap : ∀ (i : Nat) (y : Value) (g : Nat), vs[i]? = some y → y.ownBlock = some g → x.ownBlock ≠ some g)
  (hown : W5.ownsRow base 36 1 v' (vs.length + 1) (vs ++ [x])) (hg : (W.alloc o).grownBy W5 v.ownBlock) : ClR W5 base v' (vs ++ [x]) (ls ++ [l]) := by
 have old : ∀ (i : Nat) (y : Value) (g : Nat), vs[i]? = some y → y.ownBlock = some g → W5.heap[g]? = W.heap[g]? := fun i y g hy hyg => by
  have hl := (h.rows.lt hy hyg).2
  rw [hg.block g (by simp; omega) (fun e => h.ne hy hyg e.symm), Below.heap_alloc _ _ _ hl]
 have hnew : W5.ownsRow base 3 1 x l.length (Qaf l) := Qcv hx (fun g e => by
  have hl := (hx.lt g e).2
  rw [hg.block g (by simp; omega) (fun e2 => by
   obtain ⟨c1, h1⟩ := Qcn hx e
   obtain ⟨c2, h2⟩ := Qcn h.own e2.symm
   exact absurd (Qex h1 h2) dW), Below.heap_alloc _ _ _ hl])
 have hlen := h.rows.len
 have key : ∀ (i : Nat) (y : Value), (vs ++ [x])[i]? = some y → (i < vs.length ∧ vs[i]? = some y) ∨ (i = vs.length ∧ y = x) := fun i y hy => by
  by_cases hi : i < vs.length
  ·rw [List.getElem?_append_left hi] at hy
   exact .inl ⟨hi, hy⟩
  ·have hi2 : i = vs.length := by have := (List.getElem?_eq_some_iff.1 hy).1; simp at this; omega
   subst hi2
   rw [List.getElem?_append_right nW] at hy
   simp at hy
   exact .inr ⟨rfl, hy.symm⟩
 refine ⟨by rw [List.length_append]; exact hown, by simp [hlen], fun i y l' hy hl => ?_, fun i j y z g hy hz h1 h2 => ?_⟩
 ·rcases key i y hy with ⟨hi, hy⟩ | ⟨rfl, rfl⟩
  ·rw [List.getElem?_append_left oW] at hl
   exact Qcv (h.rows.row i y l' hy hl) (fun g e => old i y g hy e)
  ·rw [hlen, List.getElem?_append_right nW] at hl
   simp at hl
   subst hl
   exact hnew
 ·rcases key i y hy with ⟨a1, a2⟩ | ⟨a1, rfl⟩
  ·rcases key j z hz with ⟨b1, b2⟩ | ⟨b1, rfl⟩
   ·exact h.rows.apart i j y z g a2 b2 h1 h2
   ·exact absurd h2 (hap i y g a2 h1)
  ·rcases key j z hz with ⟨b1, b2⟩ | ⟨b1, rfl⟩
   ·exact absurd h1 (hap j z g b2 h2)
   ·omega
theorem ClR.set {W : World} {base : Nat} {v : Value} {vs : List Value} {ls : List (List Int)} (h : ClR W base v vs ls) {a : Addr} (ha : a.block < base) (u : Value) : ClR (W.setCell a u) base v vs ls :=
 ⟨Qg9 h.own ha u, h.rows.len, fun i x l hx hl => Qg9 (h.rows.row i x l hx hl) ha u, h.rows.apart⟩
theorem Qxx {W : World} {base : Nat} {e : TypeId} {size : Nat} {v : Value} {n : Nat} {xs : List Value} (h : W.ownsRow base e size v n xs) : ∃ p c, v = .slice p n c ∧ n ≤ c := by
 rcases h.2 with ⟨e1, e2⟩ | ⟨g, cap, cur, e, _, _, hc, _⟩
 ·exact ⟨none, 0, by rw [e2]; exact e1, oW⟩
 ·exact ⟨_, cap, e, hc⟩
theorem ClR.coarg {W : World} {base : Nat} {v : Value} {vs : List Value} {ls : List (List Int)} (h : ClR W base v vs ls) (hl : ls.length ≤ 9223372036854775807) (hls : ∀ (i : Nat) (l : List Int), ls[i]? = some l → l.length ≤ 9223372036854775807) : CoArg W v ls := by
 have hlen := h.rows.len
 obtain ⟨p, cap, e⟩ := Qag h.own
 refine ⟨p, cap, by rw [e, hlen], hl, vs, hlen, fun h0 => ?_, fun i u l hu hi => ⟨?_, hls i l hi, ?_⟩⟩
 ·obtain ⟨s, cap', e2, hs, hc⟩ := Qgj h.own rfl oW
  rw [e] at e2
  cases e2
  exact ⟨s, 0, rfl, hs, fun i u hu => by rw [Nat.zero_add]; exact hc i u hu⟩
 ·exact (Qnw (enc := Qfo) (by have := h.rows.row i u l hu hi; exact this)).ints
 ·exact Qxx (h.rows.row i u l hu hi)
structure OwnG (w : World) (base : Nat) (U : GrV) (g : Gr) : Prop where
 ev : w.ownsRow base 34 5 U.ev g.evs.length (Qay g.evs)
 rf : w.ownsRow base 30 2 U.rf g.rf.length (Qam g.rf)
 co : ∃ B vs, base ≤ B ∧ ClR w B U.co vs g.co
 rmw : w.ownsRow base 30 2 U.rmw g.rmw.length (Qam g.rmw)
 addr : w.ownsRow base 30 2 U.addr g.addr.length (Qam g.addr)
 dat : w.ownsRow base 30 2 U.dat g.dat.length (Qam g.dat)
 ctrl : w.ownsRow base 30 2 U.ctrl g.ctrl.length (Qam g.ctrl)
theorem OwnG.below {w w' : World} {base : Nat} {U : GrV} {g : Gr} (h : OwnG w base U g) (hb : Below w.heap.size w w') : OwnG w' base U g := by
 obtain ⟨B, vs, h1, h2⟩ := h.co
 exact ⟨Qac h.ev hb, Qac h.rf hb, ⟨B, vs, h1, h2.step hb⟩, Qac h.rmw hb, Qac h.addr hb, Qac h.dat hb, Qac h.ctrl hb⟩
theorem Tryz.infoints8 : (Tryz.prog.info? 36).map (fun i => (i.zero, i.size, i.bytes)) = some (some (.slice none 0 0), 1, 24) := by kernel_rfl
theorem new3 (w : World) (t : TypeId) (A B C : Array Value) : Below w.heap.size w (((w.alloc (.cells A t)).alloc (.cells B t)).alloc (.cells C t)) ∧ Blk (((w.alloc (.cells A t)).alloc (.cells B t)).alloc (.cells C t)) w.heap.size t A ∧ Blk (((w.alloc (.cells A t)).alloc (.cells B t)).alloc (.cells C t)) (w.heap.size + 1) t B ∧ Blk (((w.alloc (.cells A t)).alloc (.cells B t)).alloc (.cells C t)) (w.heap.size + 2) t C ∧ w.heap.size + 3 ≤ (((w.alloc (.cells A t)).alloc (.cells B t)).alloc (.cells C t)).heap.size :=
 ⟨((bW.alloc nW _).alloc sW _).alloc (by simp; omega) _, ((Blk.new w t A).alloc _).alloc _, by have := (Blk.new (w.alloc (.cells A t)) t B).alloc (.cells C t); rwa [World.size_alloc] at this, by have := Blk.new ((w.alloc (.cells A t)).alloc (.cells B t)) t C; rwa [World.size_alloc, World.size_alloc] at this, by simp⟩
abbrev z8 (c : Int) : Array Value := #[.int .i64 c, .slice none 0 0, .slice none 0 0, .slice none 0 0, .slice none 0 0, .slice none 0 0, .slice none 0 0, .slice none 0 0]
structure CpS (w : World) (gb : Nat) (G cs : Array Value) (os : List (TypeId × Nat × Value × Nat × List Value)) (X : World) : Prop where
 b : Below gb w X
 g : Blk X gb 27 G
 r : Blk X (gb + 1) 27 (z8 0)
 n : Blk X (gb + 2) 27 cs
 s : gb + 3 ≤ X.heap.size
 o : ∀ t ∈ os, X.ownsRow (gb + 3) t.1 t.2.1 t.2.2.1 t.2.2.2.1 t.2.2.2.2
theorem CpS.put {w X y : World} {gb : Nat} {G cs : Array Value} {os : List (TypeId × Nat × Value × Nat × List Value)} {t : TypeId} {k n : Nat} {v : Value} {xs : List Value} (h : CpS w gb G cs os X) (hb : Below X.heap.size X y) (ho : y.ownsRow X.heap.size t k v n xs) (i : Nat) : CpS w gb G (cs.setIfInBounds i v) ((t, k, v, n, xs) :: os) (y.setCell ⟨gb + 2, i, none⟩ v) :=
 ⟨(Qaa h.b (by have := h.s; omega) hb).setCell sW _, (h.g.of_below hb).setOther sW _, (h.r.of_below hb).setOther sW _, (h.n.of_below hb).set i v,
  by have := h.s; have := hb.size; simp [World.setCell]; omega, fun t' ht => by
   rcases List.mem_cons.1 ht with rfl | ht
   ·exact Qg9 (Qa6 ho h.s) sW _
   ·exact Qg9 (Qac (h.o t' ht) hb) sW _⟩
theorem Qh (V : GrV) (g : Gr) (w : World) (h : GrR w V g) (hb : GrB g) : Calls Tryz.prog 16 #[V.val g] w fun r w' => ∃ U : GrV, r = .returned (U.val g) ∧ OwnG w' w.heap.size U g ∧ Below w.heap.size w w' := by
 obtain ⟨i0, hi, hz0, hz1, hz2⟩ := info_parts Tryz.infoint
 obtain ⟨i1, hj, hy0, hy1, hy2⟩ := info_parts Tryz.infoints8
 obtain ⟨Va1, Va2, Va3, Va4, Va5, Va6, Va7⟩ := V
 obtain ⟨p1, k1, e1, _, hl1, _⟩ := h.ev
 obtain ⟨p2, k2, e2, _, _⟩ := Qae h.rf
 obtain ⟨p4, k4, e4, _, _⟩ := Qae h.rmw
 obtain ⟨p5, k5, e5, _, _⟩ := Qae h.addr
 obtain ⟨p6, k6, e6, _, _⟩ := Qae h.dat
 obtain ⟨p7, k7, e7, _, _⟩ := Qae h.ctrl
 obtain ⟨p3, k3, e3, hcl, hco⟩ := Qde h.co
 dsimp only at e1 e2 e3 e4 e5 e6 e7
 subst e1
 subst e2
 subst e3
 subst e4
 subst e5
 subst e6
 subst e7
 obtain ⟨hb2, hb4, hb5, hb6, hb7, hb3, hbl⟩ := hb
 have HC := Qa hco
 have HBL := Qa hbl
 have H := Qa h
 obtain ⟨hB, hG, hR, hN, hS⟩ := new3 w 27 (g8 g p1 k1 p2 k2 p3 k3 p4 k4 p5 k5 p6 k6 p7 k7) (z8 0) (z8 g.cells)
 unfold GrV.val
 dsimp only
 clear h hco hbl
 go_enter Tryz.func16, Tryz.ntmps16
 go_upto_region 2 with fail
 generalize ((w.alloc (.cells (g8 g p1 k1 p2 k2 p3 k3 p4 k4 p5 k5 p6 k6 p7 k7) 27)).alloc (.cells (z8 0) 27)).alloc (.cells (z8 g.cells) 27) = X0 at *
 generalize hgb : w.heap.size = gb at *
 have S0 : Hid (CpS w gb (g8 g p1 k1 p2 k2 p3 k3 p4 k4 p5 k5 p6 k6 p7 k7) (z8 g.cells) [] X0) := ⟨hB, hG, hR, hN, hS, fun t h => by cases h⟩
 clear hB hG hR hN hS
 have cn : X0.cell? ⟨gb + 2, 1, none⟩ = some (.slice none 0 0) := S0.out.n.cell rfl
 have cg : X0.cell? ⟨gb, 1, none⟩ = some (.slice p1 g.evs.length k1) := S0.out.g.cell rfl
 go_upto_region 3 with (at_builtin; refine Qkk rfl _ _ rfl rfl _ rfl g.evs (H.out.ev.below (by rw [hgb]; exact S0.out.b)) ?_; intro v1 y1 ho hg; obtain ⟨q1, m1, rfl⟩ := Qag ho; have cn' : y1.cell? ⟨gb + 2, 1, none⟩ = some (.slice none 0 0) := (S0.out.n.of_below (Qah hg)).cell rfl; have fn : y1.frozen? ⟨gb + 2, 1, none⟩ = false := (S0.out.n.of_below (Qah hg)).frozen 1)
 have S1 := Qa (S0.out.put (Qah hg) ho 1)
 clear ho hg cn cg cn' fn S0
 generalize y1.setCell ⟨gb + 2, 1, none⟩ (.slice q1 g.evs.length m1) = X1 at *
 have cn : X1.cell? ⟨gb + 2, 2, none⟩ = some (.slice none 0 0) := S1.out.n.cell rfl
 have cg : X1.cell? ⟨gb, 2, none⟩ = some (.slice p2 g.rf.length k2) := S1.out.g.cell rfl
 go_upto_region 4 with (at_builtin; refine Qby rfl _ _ rfl rfl _ rfl g.rf (H.out.rf.below (by rw [hgb]; exact S1.out.b)) hb2 ?_; intro v2 y2 ho hg; obtain ⟨q2, m2, rfl⟩ := Qag ho; have cn' : y2.cell? ⟨gb + 2, 2, none⟩ = some (.slice none 0 0) := (S1.out.n.of_below (Qah hg)).cell rfl; have fn : y2.frozen? ⟨gb + 2, 2, none⟩ = false := (S1.out.n.of_below (Qah hg)).frozen 2)
 have S2 := Qa (S1.out.put (Qah hg) ho 2)
 clear ho hg cn cg cn' fn S1
 generalize y2.setCell ⟨gb + 2, 2, none⟩ (.slice q2 g.rf.length m2) = X2 at *
 have cn : X2.cell? ⟨gb + 2, 4, none⟩ = some (.slice none 0 0) := S2.out.n.cell rfl
 have cg : X2.cell? ⟨gb, 4, none⟩ = some (.slice p4 g.rmw.length k4) := S2.out.g.cell rfl
 go_upto_region 5 with (at_builtin; refine Qby rfl _ _ rfl rfl _ rfl g.rmw (H.out.rmw.below (by rw [hgb]; exact S2.out.b)) hb4 ?_; intro v4 y4 ho hg; obtain ⟨q4, m4, rfl⟩ := Qag ho; have cn' : y4.cell? ⟨gb + 2, 4, none⟩ = some (.slice none 0 0) := (S2.out.n.of_below (Qah hg)).cell rfl; have fn : y4.frozen? ⟨gb + 2, 4, none⟩ = false := (S2.out.n.of_below (Qah hg)).frozen 4)
 have S3 := Qa (S2.out.put (Qah hg) ho 4)
 clear ho hg cn cg cn' fn S2
 generalize y4.setCell ⟨gb + 2, 4, none⟩ (.slice q4 g.rmw.length m4) = X3 at *
 have cn : X3.cell? ⟨gb + 2, 5, none⟩ = some (.slice none 0 0) := S3.out.n.cell rfl
 have cg : X3.cell? ⟨gb, 5, none⟩ = some (.slice p5 g.addr.length k5) := S3.out.g.cell rfl
 go_upto_region 6 with (at_builtin; refine Qby rfl _ _ rfl rfl _ rfl g.addr (H.out.addr.below (by rw [hgb]; exact S3.out.b)) hb5 ?_; intro v5 y5 ho hg; obtain ⟨q5, m5, rfl⟩ := Qag ho; have cn' : y5.cell? ⟨gb + 2, 5, none⟩ = some (.slice none 0 0) := (S3.out.n.of_below (Qah hg)).cell rfl; have fn : y5.frozen? ⟨gb + 2, 5, none⟩ = false := (S3.out.n.of_below (Qah hg)).frozen 5)
 have S4 := Qa (S3.out.put (Qah hg) ho 5)
 clear ho hg cn cg cn' fn S3
 generalize y5.setCell ⟨gb + 2, 5, none⟩ (.slice q5 g.addr.length m5) = X4 at *
 have cn : X4.cell? ⟨gb + 2, 6, none⟩ = some (.slice none 0 0) := S4.out.n.cell rfl
 have cg : X4.cell? ⟨gb, 6, none⟩ = some (.slice p6 g.dat.length k6) := S4.out.g.cell rfl
 go_upto_region 7 with (at_builtin; refine Qby rfl _ _ rfl rfl _ rfl g.dat (H.out.dat.below (by rw [hgb]; exact S4.out.b)) hb6 ?_; intro v6 y6 ho hg; obtain ⟨q6, m6, rfl⟩ := Qag ho; have cn' : y6.cell? ⟨gb + 2, 6, none⟩ = some (.slice none 0 0) := (S4.out.n.of_below (Qah hg)).cell rfl; have fn : y6.frozen? ⟨gb + 2, 6, none⟩ = false := (S4.out.n.of_below (Qah hg)).frozen 6)
 have S5 := Qa (S4.out.put (Qah hg) ho 6)
 clear ho hg cn cg cn' fn S4
 generalize y6.setCell ⟨gb + 2, 6, none⟩ (.slice q6 g.dat.length m6) = X5 at *
 have cn : X5.cell? ⟨gb + 2, 7, none⟩ = some (.slice none 0 0) := S5.out.n.cell rfl
 have cg : X5.cell? ⟨gb, 7, none⟩ = some (.slice p7 g.ctrl.length k7) := S5.out.g.cell rfl
 go_upto_region 8 with (at_builtin; refine Qby rfl _ _ rfl rfl _ rfl g.ctrl (H.out.ctrl.below (by rw [hgb]; exact S5.out.b)) hb7 ?_; intro v7 y7 ho hg; obtain ⟨q7, m7, rfl⟩ := Qag ho; have cn' : y7.cell? ⟨gb + 2, 7, none⟩ = some (.slice none 0 0) := (S5.out.n.of_below (Qah hg)).cell rfl; have fn : y7.frozen? ⟨gb + 2, 7, none⟩ = false := (S5.out.n.of_below (Qah hg)).frozen 7)
 have S6 := Qa (S5.out.put (Qah hg) ho 7)
 clear ho hg cn cg cn' fn S5
 generalize y7.setCell ⟨gb + 2, 7, none⟩ (.slice q7 g.ctrl.length m7) = X6 at *
 have HB6 := Qa S6.out.b
 have HG6 := Qa S6.out.g
 have HR6 := Qa S6.out.r
 have HN6 : Hid (Blk X6 (gb + 2) 27 #[.int .i64 g.cells, .slice q1 g.evs.length m1, .slice q2 g.rf.length m2, .slice none 0 0, .slice q4 g.rmw.length m4, .slice q5 g.addr.length m5, .slice q6 g.dat.length m6, .slice q7 g.ctrl.length m7]) := S6.out.n
 have HS6 := Qa S6.out.s
 go_wp2_with fail
 go_loopg [4] g.co.length (fun f v4 wr => ∃ c : Nat, v4 = .int .i64 ((c : Nat) : Int) ∧ c ≤ g.co.length ∧ Hid (c + f = g.co.length) ∧ (∃ (q3 : Option Addr) (m3 : Nat) (vs : List Value), Hid (vs.length = c) ∧ Hid (Blk wr (gb + 2) 27 #[.int .i64 g.cells, .slice q1 g.evs.length m1, .slice q2 g.rf.length m2, .slice q3 c m3, .slice q4 g.rmw.length m4, .slice q5 g.addr.length m5, .slice q6 g.dat.length m6, .slice q7 g.ctrl.length m7]) ∧ Hid (ClR wr X6.heap.size (.slice q3 c m3) vs (g.co.take c))) ∧ Hid (X6.grownBy wr (some (gb + 2))))
 case atStart => exact ⟨0, rfl, Nat.zero_le _, Nat.zero_add _, ⟨none, 0, [], rfl, HN6.out, by rw [Hid, List.take_zero]; exact ClR.nil _ _⟩, Qgb _ _⟩
 case round =>
  obtain ⟨c, rfl, hc, HKF, ⟨q3, m3, vs, HVL, HNx, HCl⟩, HGR⟩ := hrel
  generalize hwx : wr = wx at *
  clear hwx
  have HSx : Hid (gb + 3 ≤ wx.heap.size) := Nat.le_trans HS6.out HGR.out.size
  have HBx : Hid (Below gb w wx) := HB6.out.grown HGR.out (by have := HS6.out; omega) (fun q e => by cases e; omega)
  have HGx : Hid (Blk wx gb 27 (g8 g p1 k1 p2 k2 p3 k3 p4 k4 p5 k5 p6 k6 p7 k7)) := (HGR.out.block gb (by have := HS6.out; omega) sW).trans HG6.out
  have c3 : wx.cell? ⟨gb, 3, none⟩ = some (.slice p3 g.co.length k3) := HGx.out.cell rfl
  have C0 : (0 : Int) ≤ (c : Int) := by omega
  by_cases hlt : c < g.co.length
  ·have C1 : (c : Int) < (g.co.length : Int) := by omega
   obtain ⟨l, hl⟩ : ∃ l, g.co[c]? = some l := ⟨_, List.getElem?_eq_getElem hlt⟩
   obtain ⟨s, o, u, rfl, hs, hu, hiu, hll⟩ := HC.out c l hl
   obtain ⟨pl, kl, rfl, hpl⟩ := Qcw hiu
   have hl8 : l.length * 8 ≤ 140737488355328 := HBL.out l (List.mem_of_getElem? hl)
   have HU := Qa hu
   have HPL := Qa hpl
   have HTK : Hid (g.co.take (c + 1) = g.co.take c ++ [l]) := by rw [Hid, List.take_add_one, hl]; rfl
   clear hl hu hiu hpl
   go_wp2_with fail
   clear c3
   go_loopg [5, 6] l.length (fun f v5 v6 wr => ∃ (j : Nat) (ql : Option Addr) (ml : Nat), v6 = .int .i64 ((j : Nat) : Int) ∧ v5 = .slice ql j ml ∧ j ≤ l.length ∧ Hid (j + f = l.length) ∧ Hid (wr.ownsRow wx.heap.size 3 1 (.slice ql j ml) j (Qaf (l.take j))) ∧ Hid (Below wx.heap.size wx wr))
   case atStart => exact ⟨0, none, 0, rfl, rfl, Nat.zero_le _, Nat.zero_add _, World.ownsRow_nil _ _ _ _, Below.refl _ _⟩
   case round =>
    obtain ⟨j, ql, ml, rfl, rfl, hj0, HKG, HOl, HD⟩ := hrel
    generalize hwy : wr = wy at *
    clear hwy
    have HBy : Hid (Below gb w wy) := HBx.out.trans (HD.out.mono (by have := HSx.out; omega))
    have c3 : wy.cell? ⟨gb, 3, none⟩ = some (.slice (some ⟨s, o, none⟩) g.co.length k3) := (HGx.out.of_below HD.out).cell rfl
    have x3 : wy.cell? ⟨s, o + c, none⟩ = some (.slice pl l.length kl) := (HBy.out.cell (p := ⟨s, o + c, none⟩) hs).trans HU.out
    have J0 : (0 : Int) ≤ (j : Int) := by omega
    by_cases hjl : j < l.length
    ·have J1 : (j : Int) < (l.length : Int) := by omega
     obtain ⟨sl, ol, rfl, hsl, hkl⟩ := HPL.out oW
     rw [hgb] at hsl
     obtain ⟨x, hx⟩ : ∃ x, l[j]? = some x := ⟨_, List.getElem?_eq_getElem hjl⟩
     have z9 : wy.cell? ⟨sl, ol + j, none⟩ = some (.int .i64 x) := (HBy.out.cell (p := ⟨sl, ol + j, none⟩) hsl).trans (hkl j x hx)
     have HEN : Hid (Qaf (l.take j) ++ [.int .i64 x] = Qaf (l.take (j + 1))) := by rw [Hid, List.take_add_one, hx]; simp [Qaf]
     have HSY := Qa HD.out.size
     clear hx hkl
     go_wp2_with (at_builtin; refine wpList_append_own_at _ rfl _ _ 36 rfl wx.heap.size 3 i0 (.int .i64 0) 1 8 Tryz.underlying36 hi hz0 hz1 hz2 rfl dW (.slice ql j ml) j (Qaf (l.take j)) rfl (HOl.out.alloc _) ⟨_, 0, none⟩ 1 1 [.int .i64 x] rfl rfl (by intro k u hk; match k, hk with | 0, hk => simp at hk; subst hk; exact (Blk.new _ _ _).cell rfl) (by simp [Value.oneCell']) (by unfold maxLen; omega) oW (by have := HSY.out; simp; omega) ?_; intro v5 w5 hown5 hgrow5 _ _)
     obtain ⟨q5, m5, rfl⟩ := Qag hown5
     have hb5 : Below wx.heap.size wx w5 := (HD.out.alloc HD.out.size _).grown hgrow5 (by have := HSY.out; simp; omega) (fun q e => (HOl.out.lt q e).1)
     rw [HEN.out] at hown5
     go_roundg (l.length - (j + 1))
     case measure => have := HKG.out; omega
     case rel => exact ⟨j + 1, q5, m5, by go_num, rfl, oW, by have := HKG.out; rw [Hid]; omega, hown5, hb5⟩
    ·obtain rfl : j = l.length := by omega
     obtain rfl := HVL.out
     have HSY := Qa HD.out.size
     have HOL2 := HOl.out
     rw [List.take_length] at HOL2
     have HCy := HCl.out.step HD.out
     have HNy : Hid (Blk wy (gb + 2) 27 #[.int .i64 g.cells, .slice q1 g.evs.length m1, .slice q2 g.rf.length m2, .slice q3 vs.length m3, .slice q4 g.rmw.length m4, .slice q5 g.addr.length m5, .slice q6 g.dat.length m6, .slice q7 g.ctrl.length m7]) := HNx.out.of_below HD.out
     have cn : wy.cell? ⟨gb + 2, 3, none⟩ = some (.slice q3 vs.length m3) := HNy.out.cell rfl
     have HLT : Hid (∀ q, (Value.slice q3 vs.length m3).ownBlock = some q → X6.heap.size ≤ q) := fun q e => (HCl.out.own.lt q e).1
     have HOW := Qa HCy.own
     have HCY := Qa HCy
     have HOLL := Qa HOL2
     clear HCy HOL2
     go_wp2_with (at_builtin; refine wpList_append_own_at _ rfl _ _ 25 rfl X6.heap.size 36 i1 (.slice none 0 0) 1 24 Tryz.underlying25 hj hy0 hy1 hy2 rfl dW (.slice q3 vs.length m3) vs.length vs rfl (HOW.out.alloc _) ⟨_, 0, none⟩ 1 1 [.slice ql l.length ml] rfl rfl (by intro k u hk; match k, hk with | 0, hk => simp at hk; subst hk; exact (Blk.new _ _ _).cell rfl) (by simp [Value.oneCell']) (by unfold maxLen; omega) oW (by have := HSY.out; have := HGR.out.size; simp; omega) ?_; intro v7 w7 hown7 hg7 _ _; obtain ⟨q8, m8, rfl⟩ := Qag hown7; have hk7 := (hg7.block (gb + 2) (by have := HSY.out; have := HSx.out; simp; omega) (fun e => by have := HLT.out _ e.symm; have := HS6.out; omega)).trans (HNy.out.alloc _); have cn7 := Blk.cell (j := 3) hk7 rfl; have fn7 := Blk.frozen hk7 3)
     have hC7 : ClR w7 X6.heap.size (.slice q8 (vs.length + 1) m8) (vs ++ [.slice ql l.length ml]) (g.co.take vs.length ++ [l]) := HCY.out.add (Qa6 HOLL.out HGR.out.size) (fun i y g' hy hyg e => by have h1 := (HCl.out.rows.lt hy hyg).2; have h2 := (HOLL.out.lt g' e).1; omega) hown7 hg7
     have hBw : Below wx.heap.size wx (wy.alloc (.cells #[.slice ql l.length ml] 36)) := HD.out.alloc HD.out.size _
     have hG7 : X6.grownBy (w7.setCell ⟨gb + 2, 3, none⟩ (.slice q8 (vs.length + 1) m8)) (some (gb + 2)) := by
      have s1 := hg7.size
      have s2 := hBw.size
      have s3 := HGR.out.size
      refine ⟨hg7.os.trans (hBw.os.trans HGR.out.os), hg7.tape.trans (hBw.tape.trans HGR.out.tape), hg7.output.trans (hBw.output.trans HGR.out.output), by simp only [World.setCell, Array.size_modify]; omega, fun k hk hne => ?_⟩
      refine (Below.heap_setCell w7 ⟨gb + 2, 3, none⟩ _ k (fun e => hne (by rw [e]))).trans ?_
      refine (hg7.block k oW (fun e => by have := HLT.out k e.symm; omega)).trans ?_
      exact (hBw.block k oW).trans (HGR.out.block k hk hne)
     go_roundg (g.co.length - (vs.length + 1))
     case measure => have := HKF.out; omega
     case rel => exact ⟨vs.length + 1, by go_num, oW, by have := HKF.out; rw [Hid]; omega, ⟨q8, m8, vs ++ [.slice ql l.length ml], by rw [Hid]; simp, Blk.set (show Blk w7 (gb + 2) _ _ from hk7) 3 _, by rw [Hid, HTK.out]; exact hC7.set (by have := HS6.out; show gb + 2 < _; omega) _⟩, hG7⟩
  ·obtain rfl : c = g.co.length := by omega
   have hNx := HNx.out
   have hRx : Blk wx (gb + 1) 27 (z8 0) := (HGR.out.block (gb + 1) (by have := HS6.out; omega) sW).trans HR6.out
   have hall : ((g8 g q1 m1 q2 m2 q3 m3 q4 m4 q5 m5 q6 m6 q7 m7) : Array Value).all (·.oneCell') = true := by simp [Value.oneCell']
   have hinf : (Tryz.prog.info? 27).map (·.size) = some ((g8 g q1 m1 q2 m2 q3 m3 q4 m4 q5 m5 q6 m6 q7 m7) : Array Value).size := by kernel_rfl
   have c3x := c3
   go_upto_region 17 with fail
   go_wp2_with (first | refine wpList_load_row rfl 27 _ rfl (gb + 2) rfl 27 (g8 g q1 m1 q2 m2 q3 m3 q4 m4 q5 m5 q6 m6 q7 m7) (0, 0) _ hNx Tryz.underlying27 rfl kW ?_ | refine wpList_store_row rfl 27 _ _ rfl (gb + 1) (g8 g q1 m1 q2 m2 q3 m3 q4 m4 q5 m5 q6 m6 q7 m7) rfl rfl 27 (z8 0) hRx hinf rfl hall ?_)
   (try simp only [Exit.inBlock, Exit.then])
   refine bodyPost_ret (results_cell_row rfl _ _ (gb + 1) 27 (g8 g q1 m1 q2 m2 q3 m3 q4 m4 q5 m5 q6 m6 q7 m7) (0, 0) _ rfl (hRx.setRow' _) Tryz.underlying27 rfl kW) rfl ?_
   have hS6 := HS6.out
   have key : ∀ {base : Nat} {e : TypeId} {size : Nat} {v : Value} {n : Nat} {xs : List Value}, gb + 3 ≤ base → wx.ownsRow base e size v n xs → (wx.setRow (gb + 1) (g8 g q1 m1 q2 m2 q3 m3 q4 m4 q5 m5 q6 m6 q7 m7)).ownsRow base e size v n xs := fun hb ho => Qcv ho (fun g' e => setRow_other wx (gb + 1) g' _ (by have := (ho.lt g' e).1; omega))
   have old : ∀ {e : TypeId} {size : Nat} {v : Value} {n : Nat} {xs : List Value}, X6.ownsRow (gb + 3) e size v n xs → (wx.setRow (gb + 1) (g8 g q1 m1 q2 m2 q3 m3 q4 m4 q5 m5 q6 m6 q7 m7)).ownsRow (gb + 3) e size v n xs := fun ho => key nW (Qcv ho (fun g' e => HGR.out.block g' (ho.lt g' e).2 (by have := (ho.lt g' e).1; intro h; cases h; omega)))
   have hC9 := HCl.out
   rw [List.take_length] at hC9
   have hC8 : ClR (wx.setRow (gb + 1) (g8 g q1 m1 q2 m2 q3 m3 q4 m4 q5 m5 q6 m6 q7 m7)) X6.heap.size (.slice q3 g.co.length m3) vs g.co := ⟨key hS6 hC9.own, hC9.rows.len, fun i x l hx hl => key hS6 (hC9.rows.row i x l hx hl), hC9.rows.apart⟩
   refine ⟨⟨.slice q1 g.evs.length m1, .slice q2 g.rf.length m2, .slice q3 g.co.length m3, .slice q4 g.rmw.length m4, .slice q5 g.addr.length m5, .slice q6 g.dat.length m6, .slice q7 g.ctrl.length m7⟩, rfl, ?_⟩
   rw [hgb]
   refine ⟨⟨(Qa6 (old (S6.out.o _ (.tail _ (.tail _ (.tail _ (.tail _ (.tail _ (.head _)))))))) oW), (Qa6 (old (S6.out.o _ (.tail _ (.tail _ (.tail _ (.tail _ (.head _))))))) oW), ⟨X6.heap.size, vs, oW, hC8⟩, (Qa6 (old (S6.out.o _ (.tail _ (.tail _ (.tail _ (.head _)))))) oW), (Qa6 (old (S6.out.o _ (.tail _ (.tail _ (.head _))))) oW), (Qa6 (old (S6.out.o _ (.tail _ (.head _)))) oW), (Qa6 (old (S6.out.o _ (.head _))) oW)⟩, ?_⟩
   exact HBx.out.trans (Qan _ oW)
end Go.Proofs.YtdkogbfamdnheaaGreatDoor
