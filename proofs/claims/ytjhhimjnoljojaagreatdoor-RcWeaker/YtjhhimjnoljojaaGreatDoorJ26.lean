/- Copies of lists of pairs and of events. (Printed by gr8j.py.) -/
import Derived.Test.YtjhhimjnoljojaaGreatDoorJ22
import Derived.Test.YtjhhimjnoljojaaGreatDoorJ10
import Derived.Deep.AppendSrc
import Derived.Test.YtjhhimjnoljojaaGreatDoorJ24
namespace Go.Proofs.YtjhhimjnoljojaaGreatDoor
open Go.RowKit Go.Shelf Sx
def encPI (l : List (Int × Int)) : List Value := l.flatMap (fun x => [.int .i64 x.1, .int .i64 x.2])
theorem encPI_length (l : List (Int × Int)) : (encPI l).length = l.length * 2 := by
  induction l with
  | nil => rfl
  | cons x l ih => simp only [encPI, List.flatMap_cons, List.length_append, List.length_cons, List.length_nil] at ih ⊢; omega
theorem encPI_at : ∀ (l : List (Int × Int)) (i : Nat) (x : Int × Int), l[i]? = some x → (encPI l)[i * 2]? = some (.int .i64 x.1) ∧ (encPI l)[i * 2 + 1]? = some (.int .i64 x.2)
  | [], i, x, h => by simp at h
  | y :: l, 0, x, h => by
    simp only [List.getElem?_cons_zero, Option.some.injEq] at h
    subst h
    exact ⟨rfl, rfl⟩
  | y :: l, i + 1, x, h => by
    rw [List.getElem?_cons_succ] at h
    have := encPI_at l i x h
    rw [show (i + 1) * 2 = i * 2 + 1 + 1 by omega]
    exact this
theorem encPI_get : ∀ (l : List (Int × Int)) (j : Nat) (u : Value), (encPI l)[j]? = some u → ∃ i x, l[i]? = some x ∧ ((j = i * 2 ∧ u = .int .i64 x.1) ∨ (j = i * 2 + 1 ∧ u = .int .i64 x.2))
  | [], j, u, h => by simp [encPI] at h
  | y :: l, 0, u, h => by
    have h : some (Value.int .i64 y.1) = some u := h
    injection h with h
    exact ⟨0, y, rfl, .inl ⟨rfl, h.symm⟩⟩
  | y :: l, 1, u, h => by
    have h : some (Value.int .i64 y.2) = some u := h
    injection h with h
    exact ⟨0, y, rfl, .inr ⟨rfl, h.symm⟩⟩
  | y :: l, j + 2, u, h => by
    have h : (encPI l)[j]? = some u := h
    obtain ⟨i, x, h1, h2⟩ := encPI_get l j u h
    exact ⟨i + 1, x, h1, h2.imp (fun h => ⟨by omega, h.2⟩) (fun h => ⟨by omega, h.2⟩)⟩
theorem encPI_one (l : List (Int × Int)) : ∀ u ∈ encPI l, u.oneCell' = true := by
  intro u hu
  obtain ⟨j, hj⟩ := List.getElem?_of_mem hu
  obtain ⟨i, x, _, ⟨_, rfl⟩ | ⟨_, rfl⟩⟩ := encPI_get l j u hj <;> rfl
theorem run_append_nil0 {P : Program} (w : World) (t ty e : TypeId) (i : TypeInfo) (ht : P.underlying t = some (.slice e)) (hi : P.info? e = some i) (x : Option Addr) (cap : Nat) :
    (Builtin.append_ #[t, t] ty #[.slice none 0 0, .slice x 0 cap]).run P w = .ok (.slice none 0 0) w := by
  have hc : (Builtin.firstCells i.size 0 (.slice x 0 cap)).run P w = .ok #[] w := by
    cases x with
    | none => exact run_firstCells_none w i.size 0 0 cap
    | some a => exact run_firstCells_some w i.size 0 a 0 cap [] (by simp) (fun j u h => by simp at h)
  simp [Builtin.append_, run_underlying ht, sizeOf, typeInfo, hi, Builtin.lenOf, hc]
theorem grown_refl (w : World) (r : Option Nat) : w.grownBy w r := ⟨rfl, rfl, rfl, Nat.le_refl _, fun _ _ _ => rfl⟩
theorem wpList_append_pairs {w : World} {ops : Array Oper} {rest : List Oper} {o : Oper} {a : Act} {Q : Exit → Act → World → Prop} (hgd : o.guard = none) (s x : Operand)
    (ho : o.op = .call { callee := .builtin .append, args := #[s, x], argTypes := #[24, 24] }) (hs : a.eval s = .slice none 0 0) (v : Value) (hx : a.eval x = v) (l : List (Int × Int)) (hP : PArg w v l) (hl : l.length * 16 ≤ 140737488355328)
    (h : ∀ v' w', w'.ownsRow w.heap.size 34 2 v' l.length (encPI l) → w.grownBy w' none → wpList Tryz.prog ops Q rest (a.put o.dst v') w') : wpList Tryz.prog ops Q (o :: rest) a w := by
  obtain ⟨i0, hi, hz0, hz1, hz2⟩ := info_parts Tryz.infopair
  rcases hP with ⟨x0, cap, rfl, rfl⟩ | ⟨s0, o0, cap, rfl, h2, _⟩
  · refine wpList_plain hgd fun K hK => ?_
    have hrun := run_append_nil0 (P := Tryz.prog) w 24 o.type 34 i0 Tryz.underlying24 hi x0 cap
    unfold Oper.wp
    simp [execOp, ho, resolve, invoke, builtin, hs, hx, hrun, Result.andThen]
    exact hK _ _ (h _ _ (World.ownsRow_nil _ _ _ _) (grown_refl w none))
  · refine wpList_append_own w hgd s x 24 ho w.heap.size 34 i0 (.agg #[.int .i64 0, .int .i64 0]) 2 16 Tryz.underlying24 hi hz0 hz1 hz2 rfl (by decide) (.slice none 0 0) 0 [] hs (World.ownsRow_nil _ _ _ _) ⟨s0, o0, none⟩ l.length cap (encPI l) hx (encPI_length l) ?_ (encPI_one l) (by unfold maxLen; omega) (by omega) (Nat.le_refl _) ?_
    · intro j u hj
      obtain ⟨i, y, hy, ⟨rfl, rfl⟩ | ⟨rfl, rfl⟩⟩ := encPI_get l j u hj
      · rw [Addr.add_lit]; exact h2.fst i y hy
      · rw [Addr.add_lit]; exact h2.snd i y hy
    · intro v' w' hown hg _
      rw [Nat.zero_add, List.nil_append] at hown
      exact h v' w' hown hg
theorem owns_pargI {w : World} {base : Nat} {v : Value} {l : List (Int × Int)} (h : w.ownsRow base 34 2 v l.length (encPI l)) (hl : l.length * 16 ≤ 140737488355328) : PArg w v l := by
  rcases h.2 with ⟨e, e2⟩ | ⟨g, cap, cur, e, _, hb, _, _, _, ht⟩
  · exact .inl ⟨none, 0, e.trans (by rw [e2] at *), List.eq_nil_of_length_eq_zero e2⟩
  · have hb : Blk w g 34 cur := hb
    have key : ∀ j u, (encPI l)[j]? = some u → w.cell? ⟨g, j, none⟩ = some u := by
      intro j u hj
      apply hb.cell
      rw [← ht, List.getElem?_take] at hj
      split at hj
      · rw [← Array.getElem?_toList]; exact hj
      · cases hj
    refine .inr ⟨g, 0, cap, e, ⟨hb.lt, fun i x hx => ?_, fun i x hx => ?_⟩, by omega⟩
    · rw [Nat.zero_add]; exact key _ _ (encPI_at l i x hx).1
    · rw [Nat.zero_add]; exact key _ _ (encPI_at l i x hx).2
theorem below_of_grown {w w' : World} (h : w.grownBy w' none) : Below w.heap.size w w' := ⟨h.os, h.tape, h.output, h.size, fun k hk => h.block k hk (by simp)⟩
def encEv (l : List Ev) : List Value := l.flatMap (fun e => [.int .i64 e.t, .int .i64 e.k, .int .i64 e.l, .int .u64 e.v, .int .i64 e.m])
theorem encEv_length (l : List Ev) : (encEv l).length = l.length * 5 := by
  induction l with
  | nil => rfl
  | cons a l ih => simp only [encEv, List.flatMap_cons, List.length_append, List.length_cons, List.length_nil] at *; omega
theorem encEv_cons (e : Ev) (l : List Ev) : encEv (e :: l) = .int .i64 e.t :: .int .i64 e.k :: .int .i64 e.l :: .int .u64 e.v :: .int .i64 e.m :: encEv l := rfl
theorem encEv_at : ∀ (l : List Ev) (i : Nat) (e : Ev) (j : Nat), l[i]? = some e → j < 5 → (encEv l)[i * 5 + j]? = evCell e j
  | [], i, e, j, h, _ => by simp at h
  | a :: l, 0, e, j, h, hj => by
    obtain rfl : a = e := by simpa using h
    rw [encEv_cons]
    obtain rfl | rfl | rfl | rfl | rfl : j = 0 ∨ j = 1 ∨ j = 2 ∨ j = 3 ∨ j = 4 := by omega
    all_goals rfl
  | a :: l, i + 1, e, j, h, hj => by
    have ih := encEv_at l i e j (by simpa using h) hj
    rw [encEv_cons, show (i + 1) * 5 + j = i * 5 + j + 1 + 1 + 1 + 1 + 1 by omega]
    simp only [List.getElem?_cons_succ]
    exact ih
theorem encEv_get : ∀ (l : List Ev) (j : Nat) (u : Value), (encEv l)[j]? = some u → ∃ i e k, l[i]? = some e ∧ k < 5 ∧ j = i * 5 + k ∧ evCell e k = some u := fun l j u h => by
  have hj : j < (encEv l).length := (List.getElem?_eq_some_iff.1 h).1
  rw [encEv_length] at hj
  have hi : j / 5 < l.length := by omega
  refine ⟨j / 5, l[j / 5], j % 5, List.getElem?_eq_getElem hi, by omega, by omega, ?_⟩
  rw [← encEv_at l (j / 5) _ (j % 5) (List.getElem?_eq_getElem hi) (by omega), show j / 5 * 5 + j % 5 = j by omega]
  exact h
theorem evCell_one {e : Ev} {k : Nat} {u : Value} (h : evCell e k = some u) : u.oneCell' = true := by
  unfold evCell at h
  split at h
  all_goals first | (cases h; rfl) | cases h
theorem EvsAt.at {w : World} {s o : Nat} {l : List Ev} (h : EvsAt w s o l) {i k : Nat} {e : Ev} {u : Value} (he : l[i]? = some e) (hk : evCell e k = some u) : w.cell? ⟨s, o + (i * 5 + k), none⟩ = some u := by
  unfold evCell at hk
  split at hk
  · cases hk; exact h.c0 i e he
  · cases hk; exact h.c1 i e he
  · cases hk; exact h.c2 i e he
  · cases hk; exact h.c3 i e he
  · cases hk; exact h.c4 i e he
  · cases hk
theorem Tryz.infoev : (Tryz.prog.info? 31).map (fun i => (i.zero, i.size, i.bytes)) = some (some (.agg #[.int .i64 0, .int .i64 0, .int .i64 0, .int .u64 0, .int .i64 0]), 5, 40) := by kernel_rfl
theorem wpList_append_evs {w : World} {ops : Array Oper} {rest : List Oper} {o : Oper} {a : Act} {Q : Exit → Act → World → Prop} (hgd : o.guard = none) (s x : Operand)
    (ho : o.op = .call { callee := .builtin .append, args := #[s, x], argTypes := #[23, 23] }) (hs : a.eval s = .slice none 0 0) (v : Value) (hx : a.eval x = v) (l : List Ev) (hP : EvArg w v l)
    (h : ∀ v' w', w'.ownsRow w.heap.size 31 5 v' l.length (encEv l) → w.grownBy w' none → wpList Tryz.prog ops Q rest (a.put o.dst v') w') : wpList Tryz.prog ops Q (o :: rest) a w := by
  obtain ⟨i0, hi, hz0, hz1, hz2⟩ := info_parts Tryz.infoev
  obtain ⟨p, cap, rfl, hp, hl, _⟩ := hP
  by_cases h0 : 0 < l.length
  · obtain ⟨s0, o0, rfl, h2⟩ := hp h0
    refine wpList_append_own w hgd s x 23 ho w.heap.size 31 i0 (.agg #[.int .i64 0, .int .i64 0, .int .i64 0, .int .u64 0, .int .i64 0]) 5 40 Tryz.underlying23 hi hz0 hz1 hz2 rfl (by decide) (.slice none 0 0) 0 [] hs (World.ownsRow_nil _ _ _ _) ⟨s0, o0, none⟩ l.length cap (encEv l) hx (encEv_length l) ?_ ?_ (by unfold maxLen; omega) (by omega) (Nat.le_refl _) ?_
    · intro j u hj
      obtain ⟨i, e, k, he, _, rfl, hk⟩ := encEv_get l j u hj
      rw [Addr.add_lit]
      exact h2.at he hk
    · intro u hu
      obtain ⟨j, hj⟩ := List.getElem?_of_mem hu
      obtain ⟨i, e, k, _, _, _, hk⟩ := encEv_get l j u hj
      exact evCell_one hk
    · intro v' w' hown hg _
      rw [Nat.zero_add, List.nil_append] at hown
      exact h v' w' hown hg
  · obtain rfl : l = [] := List.eq_nil_of_length_eq_zero (by omega)
    refine wpList_plain hgd fun K hK => ?_
    have hrun := run_append_nil0 (P := Tryz.prog) w 23 o.type 31 i0 Tryz.underlying23 hi p cap
    unfold Oper.wp
    rw [List.length_nil] at hx
    simp [execOp, ho, resolve, invoke, builtin, hs, hx, hrun, Result.andThen]
    exact hK _ _ (h _ _ (World.ownsRow_nil _ _ _ _) (grown_refl w none))
theorem owns_evarg {w : World} {base : Nat} {v : Value} {l : List Ev} (h : w.ownsRow base 31 5 v l.length (encEv l)) (hl : l.length * 40 ≤ 140737488355328) : EvArg w v l := by
  rcases h.2 with ⟨e, e2⟩ | ⟨g, cap, cur, e, _, hb, hc, _, _, ht⟩
  · exact ⟨none, 0, e.trans (by rw [e2]), fun h => by omega, hl, by omega⟩
  · have hb : Blk w g 31 cur := hb
    have key : ∀ j u, (encEv l)[j]? = some u → w.cell? ⟨g, j, none⟩ = some u := by
      intro j u hj
      apply hb.cell
      rw [← ht, List.getElem?_take] at hj
      split at hj
      · rw [← Array.getElem?_toList]; exact hj
      · cases hj
    refine ⟨_, cap, e, fun _ => ⟨g, 0, rfl, ⟨hb.lt, fun i x hx => ?_, fun i x hx => ?_, fun i x hx => ?_, fun i x hx => ?_, fun i x hx => ?_⟩⟩, hl, hc⟩
    · rw [Nat.zero_add]; exact key _ _ (encEv_at l i x 0 hx (by omega))
    · rw [Nat.zero_add]; exact key _ _ (encEv_at l i x 1 hx (by omega))
    · rw [Nat.zero_add]; exact key _ _ (encEv_at l i x 2 hx (by omega))
    · rw [Nat.zero_add]; exact key _ _ (encEv_at l i x 3 hx (by omega))
    · rw [Nat.zero_add]; exact key _ _ (encEv_at l i x 4 hx (by omega))
end Go.Proofs.YtjhhimjnoljojaaGreatDoor
namespace Go.Proofs.YtjhhimjnoljojaaGreatDoor
open Go.RowKit Go.Shelf Sx
theorem owns_set8 {w : World} {base : Nat} {e : TypeId} {size : Nat} {v : Value} {n : Nat} {xs : List Value} (h : w.ownsRow base e size v n xs) {a : Addr} (hne : a.block < base) (u : Value) : (w.setCell a u).ownsRow base e size v n xs := by
  refine ⟨h.1, ?_⟩
  rcases h.2 with h2 | ⟨g, cap, cur, h3, h4, h5, h6⟩
  · exact .inl h2
  · exact .inr ⟨g, cap, cur, h3, h4, (Below.heap_setCell w a u g (by omega)).trans h5, h6⟩
theorem owns_keep {W W' : World} {base : Nat} {e : TypeId} {size : Nat} {v : Value} {n : Nat} {xs : List Value} (h : W.ownsRow base e size v n xs) (hk : ∀ g, v.ownBlock = some g → W'.heap[g]? = W.heap[g]?) : W'.ownsRow base e size v n xs := by
  refine ⟨h.1, ?_⟩
  rcases h.2 with h2 | ⟨g, cap, cur, rfl, hb, hg, rest⟩
  · exact .inl h2
  · exact .inr ⟨g, cap, cur, rfl, hb, (hk g rfl).trans hg, rest⟩
theorem owns_blk {W : World} {base : Nat} {e : TypeId} {size : Nat} {v : Value} {n : Nat} {xs : List Value} (h : W.ownsRow base e size v n xs) {g : Nat} (hg : v.ownBlock = some g) : ∃ cur, Blk W g e cur := by
  rcases h.2 with ⟨rfl, _⟩ | ⟨g', cap, cur, rfl, hb, hg', _⟩
  · cases hg
  · simp [Value.ownBlock] at hg
    subst hg
    exact ⟨cur, hg'⟩
theorem blk_type {W : World} {g : Nat} {e e' : TypeId} {c c' : Array Value} (h : Blk W g e c) (k : Blk W g e' c') : e = e' := by
  have := h.symm.trans k
  simp at this
  exact this.2
structure OwnL (W : World) (base : Nat) (vs : List Value) (ls : List (List Int)) : Prop where
  len : vs.length = ls.length
  row : ∀ (i : Nat) (x : Value) (l : List Int), vs[i]? = some x → ls[i]? = some l → W.ownsRow base 3 1 x l.length (encJ l)
  apart : ∀ (i j : Nat) (x y : Value) (g : Nat), vs[i]? = some x → vs[j]? = some y → x.ownBlock = some g → y.ownBlock = some g → i = j
theorem OwnL.at_ {W : World} {base : Nat} {vs : List Value} {ls : List (List Int)} (h : OwnL W base vs ls) {i : Nat} {x : Value} (hx : vs[i]? = some x) : ∃ l, ls[i]? = some l ∧ W.ownsRow base 3 1 x l.length (encJ l) := by
  have hi : i < vs.length := (List.getElem?_eq_some_iff.1 hx).1
  have hl : ls[i]? = some (ls[i]'(by have := h.len; omega)) := List.getElem?_eq_getElem _
  exact ⟨_, hl, h.row i x _ hx hl⟩
theorem OwnL.keep {W W' : World} {base : Nat} {vs : List Value} {ls : List (List Int)} (h : OwnL W base vs ls) (hk : ∀ (i : Nat) (x : Value) (g : Nat), vs[i]? = some x → x.ownBlock = some g → W'.heap[g]? = W.heap[g]?) : OwnL W' base vs ls :=
  ⟨h.len, fun i x l hx hl => owns_keep (h.row i x l hx hl) (fun g hg => hk i x g hx hg), h.apart⟩
theorem OwnL.lt {W : World} {base : Nat} {vs : List Value} {ls : List (List Int)} (h : OwnL W base vs ls) {i : Nat} {x : Value} {g : Nat} (hx : vs[i]? = some x) (hg : x.ownBlock = some g) : base ≤ g ∧ g < W.heap.size := by
  obtain ⟨l, _, ho⟩ := h.at_ hx
  exact ho.lt g hg
theorem OwnL.step {W W' : World} {base : Nat} {vs : List Value} {ls : List (List Int)} (h : OwnL W base vs ls) (hb : Below W.heap.size W W') : OwnL W' base vs ls := h.keep (fun _ _ g hx hg => hb.block g (h.lt hx hg).2)
structure ClR (W : World) (base : Nat) (v : Value) (vs : List Value) (ls : List (List Int)) : Prop where
  own : W.ownsRow base 35 1 v vs.length vs
  rows : OwnL W base vs ls
theorem ClR.step {W W' : World} {base : Nat} {v : Value} {vs : List Value} {ls : List (List Int)} (h : ClR W base v vs ls) (hb : Below W.heap.size W W') : ClR W' base v vs ls := ⟨owns_below' h.own hb, h.rows.step hb⟩
theorem ClR.nil (W : World) (base : Nat) : ClR W base (.slice none 0 0) [] [] := ⟨World.ownsRow_nil _ _ _ _, rfl, fun i x l h => by simp at h, fun i j x y g h => by simp at h⟩
theorem ClR.ne {W : World} {base : Nat} {v : Value} {vs : List Value} {ls : List (List Int)} (h : ClR W base v vs ls) {i : Nat} {x : Value} {g : Nat} (hx : vs[i]? = some x) (hg : x.ownBlock = some g) : v.ownBlock ≠ some g := by
  intro e
  obtain ⟨l, _, ho⟩ := h.rows.at_ hx
  obtain ⟨c1, h1⟩ := owns_blk ho hg
  obtain ⟨c2, h2⟩ := owns_blk h.own e
  exact absurd (blk_type h1 h2) (by decide)
theorem ClR.add {W W5 : World} {base : Nat} {v v' x : Value} {vs : List Value} {ls : List (List Int)} {l : List Int} {o : Obj} (h : ClR W base v vs ls) (hx : W.ownsRow base 3 1 x l.length (encJ l)) (hap : ∀ (i : Nat) (y : Value) (g : Nat), vs[i]? = some y → y.ownBlock = some g → x.ownBlock ≠ some g)
    (hown : W5.ownsRow base 35 1 v' (vs.length + 1) (vs ++ [x])) (hg : (W.alloc o).grownBy W5 v.ownBlock) : ClR W5 base v' (vs ++ [x]) (ls ++ [l]) := by
  have old : ∀ (i : Nat) (y : Value) (g : Nat), vs[i]? = some y → y.ownBlock = some g → W5.heap[g]? = W.heap[g]? := fun i y g hy hyg => by
    have hl := (h.rows.lt hy hyg).2
    rw [hg.block g (by simp; omega) (fun e => h.ne hy hyg e.symm), Below.heap_alloc _ _ _ hl]
  have hnew : W5.ownsRow base 3 1 x l.length (encJ l) := owns_keep hx (fun g e => by
    have hl := (hx.lt g e).2
    rw [hg.block g (by simp; omega) (fun e2 => by
      obtain ⟨c1, h1⟩ := owns_blk hx e
      obtain ⟨c2, h2⟩ := owns_blk h.own e2.symm
      exact absurd (blk_type h1 h2) (by decide)), Below.heap_alloc _ _ _ hl])
  have hlen := h.rows.len
  have key : ∀ (i : Nat) (y : Value), (vs ++ [x])[i]? = some y → (i < vs.length ∧ vs[i]? = some y) ∨ (i = vs.length ∧ y = x) := fun i y hy => by
    by_cases hi : i < vs.length
    · rw [List.getElem?_append_left hi] at hy
      exact .inl ⟨hi, hy⟩
    · have hi2 : i = vs.length := by have := (List.getElem?_eq_some_iff.1 hy).1; simp at this; omega
      subst hi2
      rw [List.getElem?_append_right (Nat.le_refl _)] at hy
      simp at hy
      exact .inr ⟨rfl, hy.symm⟩
  refine ⟨by rw [List.length_append]; exact hown, by simp [hlen], fun i y l' hy hl => ?_, fun i j y z g hy hz h1 h2 => ?_⟩
  · rcases key i y hy with ⟨hi, hy⟩ | ⟨rfl, rfl⟩
    · rw [List.getElem?_append_left (by omega)] at hl
      exact owns_keep (h.rows.row i y l' hy hl) (fun g e => old i y g hy e)
    · rw [hlen, List.getElem?_append_right (Nat.le_refl _)] at hl
      simp at hl
      subst hl
      exact hnew
  · rcases key i y hy with ⟨a1, a2⟩ | ⟨a1, rfl⟩
    · rcases key j z hz with ⟨b1, b2⟩ | ⟨b1, rfl⟩
      · exact h.rows.apart i j y z g a2 b2 h1 h2
      · exact absurd h2 (hap i y g a2 h1)
    · rcases key j z hz with ⟨b1, b2⟩ | ⟨b1, rfl⟩
      · exact absurd h1 (hap j z g b2 h2)
      · omega
theorem ClR.set {W : World} {base : Nat} {v : Value} {vs : List Value} {ls : List (List Int)} (h : ClR W base v vs ls) {a : Addr} (ha : a.block < base) (u : Value) : ClR (W.setCell a u) base v vs ls :=
  ⟨owns_set8 h.own ha u, h.rows.len, fun i x l hx hl => owns_set8 (h.rows.row i x l hx hl) ha u, h.rows.apart⟩
theorem owns_cap {W : World} {base : Nat} {e : TypeId} {size : Nat} {v : Value} {n : Nat} {xs : List Value} (h : W.ownsRow base e size v n xs) : ∃ p c, v = .slice p n c ∧ n ≤ c := by
  rcases h.2 with ⟨e1, e2⟩ | ⟨g, cap, cur, e, _, _, hc, _⟩
  · exact ⟨none, 0, by rw [e2]; exact e1, by omega⟩
  · exact ⟨_, cap, e, hc⟩
theorem ClR.coarg {W : World} {base : Nat} {v : Value} {vs : List Value} {ls : List (List Int)} (h : ClR W base v vs ls) (hl : ls.length ≤ 9223372036854775807) (hls : ∀ (i : Nat) (l : List Int), ls[i]? = some l → l.length ≤ 9223372036854775807) : CoArg W v ls := by
  have hlen := h.rows.len
  obtain ⟨p, cap, e⟩ := owns_len h.own
  refine ⟨p, cap, by rw [e, hlen], hl, vs, hlen, fun h0 => ?_, fun i u l hu hi => ⟨?_, hls i l hi, ?_⟩⟩
  · obtain ⟨s, cap', e2, hs, hc⟩ := owns_cells h.own rfl (by omega)
    rw [e] at e2
    cases e2
    exact ⟨s, 0, rfl, hs, fun i u hu => by rw [Nat.zero_add]; exact hc i u hu⟩
  · exact (owns_list (enc := encI1) (by have := h.rows.row i u l hu hi; exact this)).ints
  · exact owns_cap (h.rows.row i u l hu hi)
end Go.Proofs.YtjhhimjnoljojaaGreatDoor
namespace Go.Proofs.YtjhhimjnoljojaaGreatDoor
open Go.RowKit Go.Shelf Sx
structure OwnG (w : World) (base : Nat) (U : GrV) (g : Gr) : Prop where
  ev : w.ownsRow base 31 5 U.ev g.evs.length (encEv g.evs)
  rf : w.ownsRow base 34 2 U.rf g.rf.length (encPI g.rf)
  co : ∃ B vs, base ≤ B ∧ ClR w B U.co vs g.co
  rmw : w.ownsRow base 34 2 U.rmw g.rmw.length (encPI g.rmw)
  addr : w.ownsRow base 34 2 U.addr g.addr.length (encPI g.addr)
  dat : w.ownsRow base 34 2 U.dat g.dat.length (encPI g.dat)
  ctrl : w.ownsRow base 34 2 U.ctrl g.ctrl.length (encPI g.ctrl)
theorem OwnG.below {w w' : World} {base : Nat} {U : GrV} {g : Gr} (h : OwnG w base U g) (hb : Below w.heap.size w w') : OwnG w' base U g := by
  obtain ⟨B, vs, h1, h2⟩ := h.co
  exact ⟨owns_below' h.ev hb, owns_below' h.rf hb, ⟨B, vs, h1, h2.step hb⟩, owns_below' h.rmw hb, owns_below' h.addr hb, owns_below' h.dat hb, owns_below' h.ctrl hb⟩
end Go.Proofs.YtjhhimjnoljojaaGreatDoor
namespace Go.Proofs.YtjhhimjnoljojaaGreatDoor
open Go.RowKit Go.Shelf Sx
theorem Tryz.infoints8 : (Tryz.prog.info? 35).map (fun i => (i.zero, i.size, i.bytes)) = some (some (.slice none 0 0), 1, 24) := by kernel_rfl
set_option linter.unusedSimpArgs false in
set_option maxRecDepth 100000 in
set_option maxHeartbeats 16000000 in
theorem r8CopiedO_calls (V : GrV) (g : Gr) (w : World) (h : GrR w V g) (hb : GrB g) : Calls Tryz.prog 16 #[V.val g] w fun r w' => ∃ U : GrV, r = .returned (U.val g) ∧ OwnG w' w.heap.size U g ∧ Below w.heap.size w w' := by
  obtain ⟨i0, hi, hz0, hz1, hz2⟩ := info_parts Tryz.infoint
  obtain ⟨i1, hj, hy0, hy1, hy2⟩ := info_parts Tryz.infoints8
  obtain ⟨Va1, Va2, Va3, Va4, Va5, Va6, Va7⟩ := V
  obtain ⟨p1, k1, e1, _, hl1, _⟩ := h.ev
  obtain ⟨p2, k2, e2, _, _⟩ := parg_form h.rf
  obtain ⟨p4, k4, e4, _, _⟩ := parg_form h.rmw
  obtain ⟨p5, k5, e5, _, _⟩ := parg_form h.addr
  obtain ⟨p6, k6, e6, _, _⟩ := parg_form h.dat
  obtain ⟨p7, k7, e7, _, _⟩ := parg_form h.ctrl
  obtain ⟨p3, k3, e3, hcl, hco⟩ := coarg_form h.co
  dsimp only at e1 e2 e3 e4 e5 e6 e7
  subst e1
  subst e2
  subst e3
  subst e4
  subst e5
  subst e6
  subst e7
  obtain ⟨hb2, hb4, hb5, hb6, hb7, hb3, hbl⟩ := hb
  have HC := hid_of hco
  have HBL := hid_of hbl
  have H := hid_of h
  have hB : Below w.heap.size w (((w.alloc (.cells #[.int .i64 g.cells, .slice p1 g.evs.length k1, .slice p2 g.rf.length k2, .slice p3 g.co.length k3, .slice p4 g.rmw.length k4, .slice p5 g.addr.length k5, .slice p6 g.dat.length k6, .slice p7 g.ctrl.length k7] 27)).alloc (.cells #[.int .i64 0, .slice none 0 0, .slice none 0 0, .slice none 0 0, .slice none 0 0, .slice none 0 0, .slice none 0 0, .slice none 0 0] 27)).alloc (.cells #[.int .i64 g.cells, .slice none 0 0, .slice none 0 0, .slice none 0 0, .slice none 0 0, .slice none 0 0, .slice none 0 0, .slice none 0 0] 27)) := (((Below.refl _ _).alloc (Nat.le_refl _) _).alloc (by simp) _).alloc (by simp; omega) _
  have hG : Blk (((w.alloc (.cells #[.int .i64 g.cells, .slice p1 g.evs.length k1, .slice p2 g.rf.length k2, .slice p3 g.co.length k3, .slice p4 g.rmw.length k4, .slice p5 g.addr.length k5, .slice p6 g.dat.length k6, .slice p7 g.ctrl.length k7] 27)).alloc (.cells #[.int .i64 0, .slice none 0 0, .slice none 0 0, .slice none 0 0, .slice none 0 0, .slice none 0 0, .slice none 0 0, .slice none 0 0] 27)).alloc (.cells #[.int .i64 g.cells, .slice none 0 0, .slice none 0 0, .slice none 0 0, .slice none 0 0, .slice none 0 0, .slice none 0 0, .slice none 0 0] 27)) w.heap.size 27 #[.int .i64 g.cells, .slice p1 g.evs.length k1, .slice p2 g.rf.length k2, .slice p3 g.co.length k3, .slice p4 g.rmw.length k4, .slice p5 g.addr.length k5, .slice p6 g.dat.length k6, .slice p7 g.ctrl.length k7] := ((Blk.new w 27 #[.int .i64 g.cells, .slice p1 g.evs.length k1, .slice p2 g.rf.length k2, .slice p3 g.co.length k3, .slice p4 g.rmw.length k4, .slice p5 g.addr.length k5, .slice p6 g.dat.length k6, .slice p7 g.ctrl.length k7]).alloc _).alloc _
  have hR : Blk (((w.alloc (.cells #[.int .i64 g.cells, .slice p1 g.evs.length k1, .slice p2 g.rf.length k2, .slice p3 g.co.length k3, .slice p4 g.rmw.length k4, .slice p5 g.addr.length k5, .slice p6 g.dat.length k6, .slice p7 g.ctrl.length k7] 27)).alloc (.cells #[.int .i64 0, .slice none 0 0, .slice none 0 0, .slice none 0 0, .slice none 0 0, .slice none 0 0, .slice none 0 0, .slice none 0 0] 27)).alloc (.cells #[.int .i64 g.cells, .slice none 0 0, .slice none 0 0, .slice none 0 0, .slice none 0 0, .slice none 0 0, .slice none 0 0, .slice none 0 0] 27)) (w.heap.size + 1) 27 #[.int .i64 0, .slice none 0 0, .slice none 0 0, .slice none 0 0, .slice none 0 0, .slice none 0 0, .slice none 0 0, .slice none 0 0] := by have := (Blk.new (w.alloc (.cells #[.int .i64 g.cells, .slice p1 g.evs.length k1, .slice p2 g.rf.length k2, .slice p3 g.co.length k3, .slice p4 g.rmw.length k4, .slice p5 g.addr.length k5, .slice p6 g.dat.length k6, .slice p7 g.ctrl.length k7] 27)) 27 #[.int .i64 0, .slice none 0 0, .slice none 0 0, .slice none 0 0, .slice none 0 0, .slice none 0 0, .slice none 0 0, .slice none 0 0]).alloc (.cells #[.int .i64 g.cells, .slice none 0 0, .slice none 0 0, .slice none 0 0, .slice none 0 0, .slice none 0 0, .slice none 0 0, .slice none 0 0] 27); rwa [World.size_alloc] at this
  have hN : Blk (((w.alloc (.cells #[.int .i64 g.cells, .slice p1 g.evs.length k1, .slice p2 g.rf.length k2, .slice p3 g.co.length k3, .slice p4 g.rmw.length k4, .slice p5 g.addr.length k5, .slice p6 g.dat.length k6, .slice p7 g.ctrl.length k7] 27)).alloc (.cells #[.int .i64 0, .slice none 0 0, .slice none 0 0, .slice none 0 0, .slice none 0 0, .slice none 0 0, .slice none 0 0, .slice none 0 0] 27)).alloc (.cells #[.int .i64 g.cells, .slice none 0 0, .slice none 0 0, .slice none 0 0, .slice none 0 0, .slice none 0 0, .slice none 0 0, .slice none 0 0] 27)) (w.heap.size + 2) 27 #[.int .i64 g.cells, .slice none 0 0, .slice none 0 0, .slice none 0 0, .slice none 0 0, .slice none 0 0, .slice none 0 0, .slice none 0 0] := by have := Blk.new ((w.alloc (.cells #[.int .i64 g.cells, .slice p1 g.evs.length k1, .slice p2 g.rf.length k2, .slice p3 g.co.length k3, .slice p4 g.rmw.length k4, .slice p5 g.addr.length k5, .slice p6 g.dat.length k6, .slice p7 g.ctrl.length k7] 27)).alloc (.cells #[.int .i64 0, .slice none 0 0, .slice none 0 0, .slice none 0 0, .slice none 0 0, .slice none 0 0, .slice none 0 0, .slice none 0 0] 27)) 27 #[.int .i64 g.cells, .slice none 0 0, .slice none 0 0, .slice none 0 0, .slice none 0 0, .slice none 0 0, .slice none 0 0, .slice none 0 0]; rwa [World.size_alloc, World.size_alloc] at this
  have hS : w.heap.size + 3 ≤ (((w.alloc (.cells #[.int .i64 g.cells, .slice p1 g.evs.length k1, .slice p2 g.rf.length k2, .slice p3 g.co.length k3, .slice p4 g.rmw.length k4, .slice p5 g.addr.length k5, .slice p6 g.dat.length k6, .slice p7 g.ctrl.length k7] 27)).alloc (.cells #[.int .i64 0, .slice none 0 0, .slice none 0 0, .slice none 0 0, .slice none 0 0, .slice none 0 0, .slice none 0 0, .slice none 0 0] 27)).alloc (.cells #[.int .i64 g.cells, .slice none 0 0, .slice none 0 0, .slice none 0 0, .slice none 0 0, .slice none 0 0, .slice none 0 0, .slice none 0 0] 27)).heap.size := by simp
  unfold GrV.val
  dsimp only
  clear h hco hbl
  go_enter Tryz.func16, Tryz.ntmps16
  go_upto_region 2 with fail
  have HB0 := hid_of hB
  have HG0 := hid_of hG
  have HR0 := hid_of hR
  have HN0 := hid_of hN
  have HS0 := hid_of hS
  generalize ((w.alloc (.cells #[.int .i64 g.cells, .slice p1 g.evs.length k1, .slice p2 g.rf.length k2, .slice p3 g.co.length k3, .slice p4 g.rmw.length k4, .slice p5 g.addr.length k5, .slice p6 g.dat.length k6, .slice p7 g.ctrl.length k7] 27)).alloc (.cells #[.int .i64 0, .slice none 0 0, .slice none 0 0, .slice none 0 0, .slice none 0 0, .slice none 0 0, .slice none 0 0, .slice none 0 0] 27)).alloc (.cells #[.int .i64 g.cells, .slice none 0 0, .slice none 0 0, .slice none 0 0, .slice none 0 0, .slice none 0 0, .slice none 0 0, .slice none 0 0] 27) = X0 at *
  clear hB hG hR hN hS
  generalize hgb : w.heap.size = gb at *
  have cn1 : X0.cell? ⟨gb + 2, 1, none⟩ = some (.slice none 0 0) := HN0.out.cell rfl
  have cg1 : X0.cell? ⟨gb, 1, none⟩ = some (.slice p1 g.evs.length k1) := HG0.out.cell rfl
  go_upto_region 3 with (at_builtin; refine wpList_append_evs rfl _ _ rfl rfl _ rfl g.evs (H.out.ev.below (by rw [hgb]; exact HB0.out)) ?_; intro v1 y1 ho1 hg1; obtain ⟨q1, m1, rfl⟩ := owns_len ho1; have cn1' : y1.cell? ⟨gb + 2, 1, none⟩ = some (.slice none 0 0) := (HN0.out.of_below (below_of_grown hg1)).cell rfl; have fn1 : y1.frozen? ⟨gb + 2, 1, none⟩ = false := (HN0.out.of_below (below_of_grown hg1)).frozen 1)
  have hB1 := below_of_grown hg1
  have HB1 : Hid (Below gb w (y1.setCell ⟨gb + 2, 1, none⟩ (.slice q1 g.evs.length m1))) := (below_step HB0.out (by rw [← hgb]; exact HB0.out.size) hB1).setCell (by simp) _
  have HG1 : Hid (Blk (y1.setCell ⟨gb + 2, 1, none⟩ (.slice q1 g.evs.length m1)) gb 27 #[.int .i64 g.cells, .slice p1 g.evs.length k1, .slice p2 g.rf.length k2, .slice p3 g.co.length k3, .slice p4 g.rmw.length k4, .slice p5 g.addr.length k5, .slice p6 g.dat.length k6, .slice p7 g.ctrl.length k7]) := (HG0.out.of_below hB1).setOther (by simp) _
  have HR1 : Hid (Blk (y1.setCell ⟨gb + 2, 1, none⟩ (.slice q1 g.evs.length m1)) (gb + 1) 27 #[.int .i64 0, .slice none 0 0, .slice none 0 0, .slice none 0 0, .slice none 0 0, .slice none 0 0, .slice none 0 0, .slice none 0 0]) := (HR0.out.of_below hB1).setOther (by simp) _
  have HN1 : Hid (Blk (y1.setCell ⟨gb + 2, 1, none⟩ (.slice q1 g.evs.length m1)) (gb + 2) 27 #[.int .i64 g.cells, .slice q1 g.evs.length m1, .slice none 0 0, .slice none 0 0, .slice none 0 0, .slice none 0 0, .slice none 0 0, .slice none 0 0]) := (HN0.out.of_below hB1).set 1 _
  have HS1 : Hid (gb + 3 ≤ (y1.setCell ⟨gb + 2, 1, none⟩ (.slice q1 g.evs.length m1)).heap.size) := by have := HS0.out; have := hB1.size; rw [Hid]; simp [World.setCell]; omega
  have HO1 : Hid ((y1.setCell ⟨gb + 2, 1, none⟩ (.slice q1 g.evs.length m1)).ownsRow (gb + 3) 31 5 (.slice q1 g.evs.length m1) g.evs.length (encEv g.evs)) := owns_set8 (owns_lo ho1 HS0.out) (by simp) _
  clear ho1 hg1 hB1 cn1 cg1 cn1' fn1
  generalize y1.setCell ⟨gb + 2, 1, none⟩ (.slice q1 g.evs.length m1) = X1 at *
  have cn2 : X1.cell? ⟨gb + 2, 2, none⟩ = some (.slice none 0 0) := HN1.out.cell rfl
  have cg2 : X1.cell? ⟨gb, 2, none⟩ = some (.slice p2 g.rf.length k2) := HG1.out.cell rfl
  go_upto_region 4 with (at_builtin; refine wpList_append_pairs rfl _ _ rfl rfl _ rfl g.rf (H.out.rf.below (by rw [hgb]; exact HB1.out)) hb2 ?_; intro v2 y2 ho2 hg2; obtain ⟨q2, m2, rfl⟩ := owns_len ho2; have cn2' : y2.cell? ⟨gb + 2, 2, none⟩ = some (.slice none 0 0) := (HN1.out.of_below (below_of_grown hg2)).cell rfl; have fn2 : y2.frozen? ⟨gb + 2, 2, none⟩ = false := (HN1.out.of_below (below_of_grown hg2)).frozen 2)
  have hB2 := below_of_grown hg2
  have HB2 : Hid (Below gb w (y2.setCell ⟨gb + 2, 2, none⟩ (.slice q2 g.rf.length m2))) := (below_step HB1.out (by rw [← hgb]; exact HB1.out.size) hB2).setCell (by simp) _
  have HG2 : Hid (Blk (y2.setCell ⟨gb + 2, 2, none⟩ (.slice q2 g.rf.length m2)) gb 27 #[.int .i64 g.cells, .slice p1 g.evs.length k1, .slice p2 g.rf.length k2, .slice p3 g.co.length k3, .slice p4 g.rmw.length k4, .slice p5 g.addr.length k5, .slice p6 g.dat.length k6, .slice p7 g.ctrl.length k7]) := (HG1.out.of_below hB2).setOther (by simp) _
  have HR2 : Hid (Blk (y2.setCell ⟨gb + 2, 2, none⟩ (.slice q2 g.rf.length m2)) (gb + 1) 27 #[.int .i64 0, .slice none 0 0, .slice none 0 0, .slice none 0 0, .slice none 0 0, .slice none 0 0, .slice none 0 0, .slice none 0 0]) := (HR1.out.of_below hB2).setOther (by simp) _
  have HN2 : Hid (Blk (y2.setCell ⟨gb + 2, 2, none⟩ (.slice q2 g.rf.length m2)) (gb + 2) 27 #[.int .i64 g.cells, .slice q1 g.evs.length m1, .slice q2 g.rf.length m2, .slice none 0 0, .slice none 0 0, .slice none 0 0, .slice none 0 0, .slice none 0 0]) := (HN1.out.of_below hB2).set 2 _
  have HS2 : Hid (gb + 3 ≤ (y2.setCell ⟨gb + 2, 2, none⟩ (.slice q2 g.rf.length m2)).heap.size) := by have := HS1.out; have := hB2.size; rw [Hid]; simp [World.setCell]; omega
  have HO1 : Hid ((y2.setCell ⟨gb + 2, 2, none⟩ (.slice q2 g.rf.length m2)).ownsRow (gb + 3) 31 5 (.slice q1 g.evs.length m1) g.evs.length (encEv g.evs)) := owns_set8 (owns_below' HO1.out hB2) (by simp) _
  have HO2 : Hid ((y2.setCell ⟨gb + 2, 2, none⟩ (.slice q2 g.rf.length m2)).ownsRow (gb + 3) 34 2 (.slice q2 g.rf.length m2) g.rf.length (encPI g.rf)) := owns_set8 (owns_lo ho2 HS1.out) (by simp) _
  clear ho2 hg2 hB2 cn2 cg2 cn2' fn2
  generalize y2.setCell ⟨gb + 2, 2, none⟩ (.slice q2 g.rf.length m2) = X2 at *
  have cn4 : X2.cell? ⟨gb + 2, 4, none⟩ = some (.slice none 0 0) := HN2.out.cell rfl
  have cg4 : X2.cell? ⟨gb, 4, none⟩ = some (.slice p4 g.rmw.length k4) := HG2.out.cell rfl
  go_upto_region 5 with (at_builtin; refine wpList_append_pairs rfl _ _ rfl rfl _ rfl g.rmw (H.out.rmw.below (by rw [hgb]; exact HB2.out)) hb4 ?_; intro v4 y4 ho4 hg4; obtain ⟨q4, m4, rfl⟩ := owns_len ho4; have cn4' : y4.cell? ⟨gb + 2, 4, none⟩ = some (.slice none 0 0) := (HN2.out.of_below (below_of_grown hg4)).cell rfl; have fn4 : y4.frozen? ⟨gb + 2, 4, none⟩ = false := (HN2.out.of_below (below_of_grown hg4)).frozen 4)
  have hB4 := below_of_grown hg4
  have HB3 : Hid (Below gb w (y4.setCell ⟨gb + 2, 4, none⟩ (.slice q4 g.rmw.length m4))) := (below_step HB2.out (by rw [← hgb]; exact HB2.out.size) hB4).setCell (by simp) _
  have HG3 : Hid (Blk (y4.setCell ⟨gb + 2, 4, none⟩ (.slice q4 g.rmw.length m4)) gb 27 #[.int .i64 g.cells, .slice p1 g.evs.length k1, .slice p2 g.rf.length k2, .slice p3 g.co.length k3, .slice p4 g.rmw.length k4, .slice p5 g.addr.length k5, .slice p6 g.dat.length k6, .slice p7 g.ctrl.length k7]) := (HG2.out.of_below hB4).setOther (by simp) _
  have HR3 : Hid (Blk (y4.setCell ⟨gb + 2, 4, none⟩ (.slice q4 g.rmw.length m4)) (gb + 1) 27 #[.int .i64 0, .slice none 0 0, .slice none 0 0, .slice none 0 0, .slice none 0 0, .slice none 0 0, .slice none 0 0, .slice none 0 0]) := (HR2.out.of_below hB4).setOther (by simp) _
  have HN3 : Hid (Blk (y4.setCell ⟨gb + 2, 4, none⟩ (.slice q4 g.rmw.length m4)) (gb + 2) 27 #[.int .i64 g.cells, .slice q1 g.evs.length m1, .slice q2 g.rf.length m2, .slice none 0 0, .slice q4 g.rmw.length m4, .slice none 0 0, .slice none 0 0, .slice none 0 0]) := (HN2.out.of_below hB4).set 4 _
  have HS3 : Hid (gb + 3 ≤ (y4.setCell ⟨gb + 2, 4, none⟩ (.slice q4 g.rmw.length m4)).heap.size) := by have := HS2.out; have := hB4.size; rw [Hid]; simp [World.setCell]; omega
  have HO1 : Hid ((y4.setCell ⟨gb + 2, 4, none⟩ (.slice q4 g.rmw.length m4)).ownsRow (gb + 3) 31 5 (.slice q1 g.evs.length m1) g.evs.length (encEv g.evs)) := owns_set8 (owns_below' HO1.out hB4) (by simp) _
  have HO2 : Hid ((y4.setCell ⟨gb + 2, 4, none⟩ (.slice q4 g.rmw.length m4)).ownsRow (gb + 3) 34 2 (.slice q2 g.rf.length m2) g.rf.length (encPI g.rf)) := owns_set8 (owns_below' HO2.out hB4) (by simp) _
  have HO4 : Hid ((y4.setCell ⟨gb + 2, 4, none⟩ (.slice q4 g.rmw.length m4)).ownsRow (gb + 3) 34 2 (.slice q4 g.rmw.length m4) g.rmw.length (encPI g.rmw)) := owns_set8 (owns_lo ho4 HS2.out) (by simp) _
  clear ho4 hg4 hB4 cn4 cg4 cn4' fn4
  generalize y4.setCell ⟨gb + 2, 4, none⟩ (.slice q4 g.rmw.length m4) = X3 at *
  have cn5 : X3.cell? ⟨gb + 2, 5, none⟩ = some (.slice none 0 0) := HN3.out.cell rfl
  have cg5 : X3.cell? ⟨gb, 5, none⟩ = some (.slice p5 g.addr.length k5) := HG3.out.cell rfl
  go_upto_region 6 with (at_builtin; refine wpList_append_pairs rfl _ _ rfl rfl _ rfl g.addr (H.out.addr.below (by rw [hgb]; exact HB3.out)) hb5 ?_; intro v5 y5 ho5 hg5; obtain ⟨q5, m5, rfl⟩ := owns_len ho5; have cn5' : y5.cell? ⟨gb + 2, 5, none⟩ = some (.slice none 0 0) := (HN3.out.of_below (below_of_grown hg5)).cell rfl; have fn5 : y5.frozen? ⟨gb + 2, 5, none⟩ = false := (HN3.out.of_below (below_of_grown hg5)).frozen 5)
  have hB5 := below_of_grown hg5
  have HB4 : Hid (Below gb w (y5.setCell ⟨gb + 2, 5, none⟩ (.slice q5 g.addr.length m5))) := (below_step HB3.out (by rw [← hgb]; exact HB3.out.size) hB5).setCell (by simp) _
  have HG4 : Hid (Blk (y5.setCell ⟨gb + 2, 5, none⟩ (.slice q5 g.addr.length m5)) gb 27 #[.int .i64 g.cells, .slice p1 g.evs.length k1, .slice p2 g.rf.length k2, .slice p3 g.co.length k3, .slice p4 g.rmw.length k4, .slice p5 g.addr.length k5, .slice p6 g.dat.length k6, .slice p7 g.ctrl.length k7]) := (HG3.out.of_below hB5).setOther (by simp) _
  have HR4 : Hid (Blk (y5.setCell ⟨gb + 2, 5, none⟩ (.slice q5 g.addr.length m5)) (gb + 1) 27 #[.int .i64 0, .slice none 0 0, .slice none 0 0, .slice none 0 0, .slice none 0 0, .slice none 0 0, .slice none 0 0, .slice none 0 0]) := (HR3.out.of_below hB5).setOther (by simp) _
  have HN4 : Hid (Blk (y5.setCell ⟨gb + 2, 5, none⟩ (.slice q5 g.addr.length m5)) (gb + 2) 27 #[.int .i64 g.cells, .slice q1 g.evs.length m1, .slice q2 g.rf.length m2, .slice none 0 0, .slice q4 g.rmw.length m4, .slice q5 g.addr.length m5, .slice none 0 0, .slice none 0 0]) := (HN3.out.of_below hB5).set 5 _
  have HS4 : Hid (gb + 3 ≤ (y5.setCell ⟨gb + 2, 5, none⟩ (.slice q5 g.addr.length m5)).heap.size) := by have := HS3.out; have := hB5.size; rw [Hid]; simp [World.setCell]; omega
  have HO1 : Hid ((y5.setCell ⟨gb + 2, 5, none⟩ (.slice q5 g.addr.length m5)).ownsRow (gb + 3) 31 5 (.slice q1 g.evs.length m1) g.evs.length (encEv g.evs)) := owns_set8 (owns_below' HO1.out hB5) (by simp) _
  have HO2 : Hid ((y5.setCell ⟨gb + 2, 5, none⟩ (.slice q5 g.addr.length m5)).ownsRow (gb + 3) 34 2 (.slice q2 g.rf.length m2) g.rf.length (encPI g.rf)) := owns_set8 (owns_below' HO2.out hB5) (by simp) _
  have HO4 : Hid ((y5.setCell ⟨gb + 2, 5, none⟩ (.slice q5 g.addr.length m5)).ownsRow (gb + 3) 34 2 (.slice q4 g.rmw.length m4) g.rmw.length (encPI g.rmw)) := owns_set8 (owns_below' HO4.out hB5) (by simp) _
  have HO5 : Hid ((y5.setCell ⟨gb + 2, 5, none⟩ (.slice q5 g.addr.length m5)).ownsRow (gb + 3) 34 2 (.slice q5 g.addr.length m5) g.addr.length (encPI g.addr)) := owns_set8 (owns_lo ho5 HS3.out) (by simp) _
  clear ho5 hg5 hB5 cn5 cg5 cn5' fn5
  generalize y5.setCell ⟨gb + 2, 5, none⟩ (.slice q5 g.addr.length m5) = X4 at *
  have cn6 : X4.cell? ⟨gb + 2, 6, none⟩ = some (.slice none 0 0) := HN4.out.cell rfl
  have cg6 : X4.cell? ⟨gb, 6, none⟩ = some (.slice p6 g.dat.length k6) := HG4.out.cell rfl
  go_upto_region 7 with (at_builtin; refine wpList_append_pairs rfl _ _ rfl rfl _ rfl g.dat (H.out.dat.below (by rw [hgb]; exact HB4.out)) hb6 ?_; intro v6 y6 ho6 hg6; obtain ⟨q6, m6, rfl⟩ := owns_len ho6; have cn6' : y6.cell? ⟨gb + 2, 6, none⟩ = some (.slice none 0 0) := (HN4.out.of_below (below_of_grown hg6)).cell rfl; have fn6 : y6.frozen? ⟨gb + 2, 6, none⟩ = false := (HN4.out.of_below (below_of_grown hg6)).frozen 6)
  have hB6 := below_of_grown hg6
  have HB5 : Hid (Below gb w (y6.setCell ⟨gb + 2, 6, none⟩ (.slice q6 g.dat.length m6))) := (below_step HB4.out (by rw [← hgb]; exact HB4.out.size) hB6).setCell (by simp) _
  have HG5 : Hid (Blk (y6.setCell ⟨gb + 2, 6, none⟩ (.slice q6 g.dat.length m6)) gb 27 #[.int .i64 g.cells, .slice p1 g.evs.length k1, .slice p2 g.rf.length k2, .slice p3 g.co.length k3, .slice p4 g.rmw.length k4, .slice p5 g.addr.length k5, .slice p6 g.dat.length k6, .slice p7 g.ctrl.length k7]) := (HG4.out.of_below hB6).setOther (by simp) _
  have HR5 : Hid (Blk (y6.setCell ⟨gb + 2, 6, none⟩ (.slice q6 g.dat.length m6)) (gb + 1) 27 #[.int .i64 0, .slice none 0 0, .slice none 0 0, .slice none 0 0, .slice none 0 0, .slice none 0 0, .slice none 0 0, .slice none 0 0]) := (HR4.out.of_below hB6).setOther (by simp) _
  have HN5 : Hid (Blk (y6.setCell ⟨gb + 2, 6, none⟩ (.slice q6 g.dat.length m6)) (gb + 2) 27 #[.int .i64 g.cells, .slice q1 g.evs.length m1, .slice q2 g.rf.length m2, .slice none 0 0, .slice q4 g.rmw.length m4, .slice q5 g.addr.length m5, .slice q6 g.dat.length m6, .slice none 0 0]) := (HN4.out.of_below hB6).set 6 _
  have HS5 : Hid (gb + 3 ≤ (y6.setCell ⟨gb + 2, 6, none⟩ (.slice q6 g.dat.length m6)).heap.size) := by have := HS4.out; have := hB6.size; rw [Hid]; simp [World.setCell]; omega
  have HO1 : Hid ((y6.setCell ⟨gb + 2, 6, none⟩ (.slice q6 g.dat.length m6)).ownsRow (gb + 3) 31 5 (.slice q1 g.evs.length m1) g.evs.length (encEv g.evs)) := owns_set8 (owns_below' HO1.out hB6) (by simp) _
  have HO2 : Hid ((y6.setCell ⟨gb + 2, 6, none⟩ (.slice q6 g.dat.length m6)).ownsRow (gb + 3) 34 2 (.slice q2 g.rf.length m2) g.rf.length (encPI g.rf)) := owns_set8 (owns_below' HO2.out hB6) (by simp) _
  have HO4 : Hid ((y6.setCell ⟨gb + 2, 6, none⟩ (.slice q6 g.dat.length m6)).ownsRow (gb + 3) 34 2 (.slice q4 g.rmw.length m4) g.rmw.length (encPI g.rmw)) := owns_set8 (owns_below' HO4.out hB6) (by simp) _
  have HO5 : Hid ((y6.setCell ⟨gb + 2, 6, none⟩ (.slice q6 g.dat.length m6)).ownsRow (gb + 3) 34 2 (.slice q5 g.addr.length m5) g.addr.length (encPI g.addr)) := owns_set8 (owns_below' HO5.out hB6) (by simp) _
  have HO6 : Hid ((y6.setCell ⟨gb + 2, 6, none⟩ (.slice q6 g.dat.length m6)).ownsRow (gb + 3) 34 2 (.slice q6 g.dat.length m6) g.dat.length (encPI g.dat)) := owns_set8 (owns_lo ho6 HS4.out) (by simp) _
  clear ho6 hg6 hB6 cn6 cg6 cn6' fn6
  generalize y6.setCell ⟨gb + 2, 6, none⟩ (.slice q6 g.dat.length m6) = X5 at *
  have cn7 : X5.cell? ⟨gb + 2, 7, none⟩ = some (.slice none 0 0) := HN5.out.cell rfl
  have cg7 : X5.cell? ⟨gb, 7, none⟩ = some (.slice p7 g.ctrl.length k7) := HG5.out.cell rfl
  go_upto_region 8 with (at_builtin; refine wpList_append_pairs rfl _ _ rfl rfl _ rfl g.ctrl (H.out.ctrl.below (by rw [hgb]; exact HB5.out)) hb7 ?_; intro v7 y7 ho7 hg7; obtain ⟨q7, m7, rfl⟩ := owns_len ho7; have cn7' : y7.cell? ⟨gb + 2, 7, none⟩ = some (.slice none 0 0) := (HN5.out.of_below (below_of_grown hg7)).cell rfl; have fn7 : y7.frozen? ⟨gb + 2, 7, none⟩ = false := (HN5.out.of_below (below_of_grown hg7)).frozen 7)
  have hB7 := below_of_grown hg7
  have HB6 : Hid (Below gb w (y7.setCell ⟨gb + 2, 7, none⟩ (.slice q7 g.ctrl.length m7))) := (below_step HB5.out (by rw [← hgb]; exact HB5.out.size) hB7).setCell (by simp) _
  have HG6 : Hid (Blk (y7.setCell ⟨gb + 2, 7, none⟩ (.slice q7 g.ctrl.length m7)) gb 27 #[.int .i64 g.cells, .slice p1 g.evs.length k1, .slice p2 g.rf.length k2, .slice p3 g.co.length k3, .slice p4 g.rmw.length k4, .slice p5 g.addr.length k5, .slice p6 g.dat.length k6, .slice p7 g.ctrl.length k7]) := (HG5.out.of_below hB7).setOther (by simp) _
  have HR6 : Hid (Blk (y7.setCell ⟨gb + 2, 7, none⟩ (.slice q7 g.ctrl.length m7)) (gb + 1) 27 #[.int .i64 0, .slice none 0 0, .slice none 0 0, .slice none 0 0, .slice none 0 0, .slice none 0 0, .slice none 0 0, .slice none 0 0]) := (HR5.out.of_below hB7).setOther (by simp) _
  have HN6 : Hid (Blk (y7.setCell ⟨gb + 2, 7, none⟩ (.slice q7 g.ctrl.length m7)) (gb + 2) 27 #[.int .i64 g.cells, .slice q1 g.evs.length m1, .slice q2 g.rf.length m2, .slice none 0 0, .slice q4 g.rmw.length m4, .slice q5 g.addr.length m5, .slice q6 g.dat.length m6, .slice q7 g.ctrl.length m7]) := (HN5.out.of_below hB7).set 7 _
  have HS6 : Hid (gb + 3 ≤ (y7.setCell ⟨gb + 2, 7, none⟩ (.slice q7 g.ctrl.length m7)).heap.size) := by have := HS5.out; have := hB7.size; rw [Hid]; simp [World.setCell]; omega
  have HO1 : Hid ((y7.setCell ⟨gb + 2, 7, none⟩ (.slice q7 g.ctrl.length m7)).ownsRow (gb + 3) 31 5 (.slice q1 g.evs.length m1) g.evs.length (encEv g.evs)) := owns_set8 (owns_below' HO1.out hB7) (by simp) _
  have HO2 : Hid ((y7.setCell ⟨gb + 2, 7, none⟩ (.slice q7 g.ctrl.length m7)).ownsRow (gb + 3) 34 2 (.slice q2 g.rf.length m2) g.rf.length (encPI g.rf)) := owns_set8 (owns_below' HO2.out hB7) (by simp) _
  have HO4 : Hid ((y7.setCell ⟨gb + 2, 7, none⟩ (.slice q7 g.ctrl.length m7)).ownsRow (gb + 3) 34 2 (.slice q4 g.rmw.length m4) g.rmw.length (encPI g.rmw)) := owns_set8 (owns_below' HO4.out hB7) (by simp) _
  have HO5 : Hid ((y7.setCell ⟨gb + 2, 7, none⟩ (.slice q7 g.ctrl.length m7)).ownsRow (gb + 3) 34 2 (.slice q5 g.addr.length m5) g.addr.length (encPI g.addr)) := owns_set8 (owns_below' HO5.out hB7) (by simp) _
  have HO6 : Hid ((y7.setCell ⟨gb + 2, 7, none⟩ (.slice q7 g.ctrl.length m7)).ownsRow (gb + 3) 34 2 (.slice q6 g.dat.length m6) g.dat.length (encPI g.dat)) := owns_set8 (owns_below' HO6.out hB7) (by simp) _
  have HO7 : Hid ((y7.setCell ⟨gb + 2, 7, none⟩ (.slice q7 g.ctrl.length m7)).ownsRow (gb + 3) 34 2 (.slice q7 g.ctrl.length m7) g.ctrl.length (encPI g.ctrl)) := owns_set8 (owns_lo ho7 HS5.out) (by simp) _
  clear ho7 hg7 hB7 cn7 cg7 cn7' fn7
  generalize y7.setCell ⟨gb + 2, 7, none⟩ (.slice q7 g.ctrl.length m7) = X6 at *
  go_wp2_with fail
  go_loopg [4] g.co.length (fun f v4 wr => ∃ c : Nat, v4 = .int .i64 ((c : Nat) : Int) ∧ c ≤ g.co.length ∧ Hid (c + f = g.co.length) ∧ (∃ (q3 : Option Addr) (m3 : Nat) (vs : List Value), Hid (vs.length = c) ∧ Hid (Blk wr (gb + 2) 27 #[.int .i64 g.cells, .slice q1 g.evs.length m1, .slice q2 g.rf.length m2, .slice q3 c m3, .slice q4 g.rmw.length m4, .slice q5 g.addr.length m5, .slice q6 g.dat.length m6, .slice q7 g.ctrl.length m7]) ∧ Hid (ClR wr X6.heap.size (.slice q3 c m3) vs (g.co.take c))) ∧ Hid (X6.grownBy wr (some (gb + 2))))
  case atStart => exact ⟨0, rfl, Nat.zero_le _, Nat.zero_add _, ⟨none, 0, [], rfl, HN6.out, by rw [Hid, List.take_zero]; exact ClR.nil _ _⟩, grown_refl _ _⟩
  case round =>
    obtain ⟨c, rfl, hc, HKF, ⟨q3, m3, vs, HVL, HNx, HCl⟩, HGR⟩ := hrel
    generalize hwx : wr = wx at *
    clear hwx
    have HSx : Hid (gb + 3 ≤ wx.heap.size) := Nat.le_trans HS6.out HGR.out.size
    have HBx : Hid (Below gb w wx) := HB6.out.grown HGR.out (by have := HS6.out; omega) (fun q e => by cases e; omega)
    have HGx : Hid (Blk wx gb 27 #[.int .i64 g.cells, .slice p1 g.evs.length k1, .slice p2 g.rf.length k2, .slice p3 g.co.length k3, .slice p4 g.rmw.length k4, .slice p5 g.addr.length k5, .slice p6 g.dat.length k6, .slice p7 g.ctrl.length k7]) := (HGR.out.block gb (by have := HS6.out; omega) (by simp)).trans HG6.out
    have c3 : wx.cell? ⟨gb, 3, none⟩ = some (.slice p3 g.co.length k3) := HGx.out.cell rfl
    have C0 : (0 : Int) ≤ ((c : Nat) : Int) := by omega
    by_cases hlt : c < g.co.length
    · have C1 : ((c : Nat) : Int) < ((g.co.length : Nat) : Int) := by omega
      obtain ⟨l, hl⟩ : ∃ l, g.co[c]? = some l := ⟨_, List.getElem?_eq_getElem hlt⟩
      obtain ⟨s, o, u, rfl, hs, hu, hiu, hll⟩ := HC.out c l hl
      obtain ⟨pl, kl, rfl, hpl⟩ := intsR_form hiu
      have hl8 : l.length * 8 ≤ 140737488355328 := HBL.out l (List.mem_of_getElem? hl)
      have HU := hid_of hu
      have HPL := hid_of hpl
      have HTK : Hid (g.co.take (c + 1) = g.co.take c ++ [l]) := by rw [Hid, List.take_add_one, hl]; rfl
      clear hl hu hiu hpl
      go_wp2_with fail
      clear c3
      go_loopg [5, 6] l.length (fun f v5 v6 wr => ∃ (j : Nat) (ql : Option Addr) (ml : Nat), v6 = .int .i64 ((j : Nat) : Int) ∧ v5 = .slice ql j ml ∧ j ≤ l.length ∧ Hid (j + f = l.length) ∧ Hid (wr.ownsRow wx.heap.size 3 1 (.slice ql j ml) j (encJ (l.take j))) ∧ Hid (Below wx.heap.size wx wr))
      case atStart => exact ⟨0, none, 0, rfl, rfl, Nat.zero_le _, Nat.zero_add _, World.ownsRow_nil _ _ _ _, Below.refl _ _⟩
      case round =>
        obtain ⟨j, ql, ml, rfl, rfl, hj0, HKG, HOl, HD⟩ := hrel
        generalize hwy : wr = wy at *
        clear hwy
        have HBy : Hid (Below gb w wy) := HBx.out.trans (HD.out.mono (by have := HSx.out; omega))
        have c3 : wy.cell? ⟨gb, 3, none⟩ = some (.slice (some ⟨s, o, none⟩) g.co.length k3) := (HGx.out.of_below HD.out).cell rfl
        have x3 : wy.cell? ⟨s, o + c, none⟩ = some (.slice pl l.length kl) := (HBy.out.cell (p := ⟨s, o + c, none⟩) hs).trans HU.out
        have J0 : (0 : Int) ≤ ((j : Nat) : Int) := by omega
        by_cases hjl : j < l.length
        · have J1 : ((j : Nat) : Int) < ((l.length : Nat) : Int) := by omega
          obtain ⟨sl, ol, rfl, hsl, hkl⟩ := HPL.out (by omega)
          rw [hgb] at hsl
          obtain ⟨x, hx⟩ : ∃ x, l[j]? = some x := ⟨_, List.getElem?_eq_getElem hjl⟩
          have z9 : wy.cell? ⟨sl, ol + j, none⟩ = some (.int .i64 x) := (HBy.out.cell (p := ⟨sl, ol + j, none⟩) hsl).trans (hkl j x hx)
          have HEN : Hid (encJ (l.take j) ++ [.int .i64 x] = encJ (l.take (j + 1))) := by rw [Hid, List.take_add_one, hx]; simp [encJ]
          have HSY := hid_of HD.out.size
          clear hx hkl
          go_wp2_with (at_builtin; refine wpList_append_own_at _ rfl _ _ 35 rfl wx.heap.size 3 i0 (.int .i64 0) 1 8 Tryz.underlying35 hi hz0 hz1 hz2 rfl (by decide) (.slice ql j ml) j (encJ (l.take j)) rfl (HOl.out.alloc _) ⟨_, 0, none⟩ 1 1 [.int .i64 x] rfl rfl (by intro k u hk; match k, hk with | 0, hk => simp at hk; subst hk; exact (Blk.new _ _ _).cell rfl) (by simp [Value.oneCell']) (by unfold maxLen; omega) (by omega) (by have := HSY.out; simp; omega) ?_; intro v5 w5 hown5 hgrow5 _ _)
          obtain ⟨q5, m5, rfl⟩ := owns_len hown5
          have hb5 : Below wx.heap.size wx w5 := (HD.out.alloc HD.out.size _).grown hgrow5 (by have := HSY.out; simp; omega) (fun q e => (HOl.out.lt q e).1)
          rw [HEN.out] at hown5
          go_roundg (l.length - (j + 1))
          case measure => have := HKG.out; omega
          case rel => exact ⟨j + 1, q5, m5, by go_num, rfl, by omega, by have := HKG.out; rw [Hid]; omega, hown5, hb5⟩
        · obtain rfl : j = l.length := by omega
          obtain rfl := HVL.out
          have HSY := hid_of HD.out.size
          have HOL2 := HOl.out
          rw [List.take_length] at HOL2
          have HCy := HCl.out.step HD.out
          have HNy : Hid (Blk wy (gb + 2) 27 #[.int .i64 g.cells, .slice q1 g.evs.length m1, .slice q2 g.rf.length m2, .slice q3 vs.length m3, .slice q4 g.rmw.length m4, .slice q5 g.addr.length m5, .slice q6 g.dat.length m6, .slice q7 g.ctrl.length m7]) := HNx.out.of_below HD.out
          have cn : wy.cell? ⟨gb + 2, 3, none⟩ = some (.slice q3 vs.length m3) := HNy.out.cell rfl
          have HLT : Hid (∀ q, (Value.slice q3 vs.length m3).ownBlock = some q → X6.heap.size ≤ q) := fun q e => (HCl.out.own.lt q e).1
          have HOW := hid_of HCy.own
          have HCY := hid_of HCy
          have HOLL := hid_of HOL2
          clear HCy HOL2
          go_wp2_with (at_builtin; refine wpList_append_own_at _ rfl _ _ 25 rfl X6.heap.size 35 i1 (.slice none 0 0) 1 24 Tryz.underlying25 hj hy0 hy1 hy2 rfl (by decide) (.slice q3 vs.length m3) vs.length vs rfl (HOW.out.alloc _) ⟨_, 0, none⟩ 1 1 [.slice ql l.length ml] rfl rfl (by intro k u hk; match k, hk with | 0, hk => simp at hk; subst hk; exact (Blk.new _ _ _).cell rfl) (by simp [Value.oneCell']) (by unfold maxLen; omega) (by omega) (by have := HSY.out; have := HGR.out.size; simp; omega) ?_; intro v7 w7 hown7 hg7 _ _; obtain ⟨q8, m8, rfl⟩ := owns_len hown7; have hk7 := (hg7.block (gb + 2) (by have := HSY.out; have := HSx.out; simp; omega) (fun e => by have := HLT.out _ e.symm; have := HS6.out; omega)).trans (HNy.out.alloc _); have cn7 := Blk.cell (j := 3) hk7 rfl; have fn7 := Blk.frozen hk7 3)
          have hC7 : ClR w7 X6.heap.size (.slice q8 (vs.length + 1) m8) (vs ++ [.slice ql l.length ml]) (g.co.take vs.length ++ [l]) := HCY.out.add (owns_lo HOLL.out HGR.out.size) (fun i y g' hy hyg e => by have h1 := (HCl.out.rows.lt hy hyg).2; have h2 := (HOLL.out.lt g' e).1; omega) hown7 hg7
          have hBw : Below wx.heap.size wx (wy.alloc (.cells #[.slice ql l.length ml] 35)) := HD.out.alloc HD.out.size _
          have hG7 : X6.grownBy (w7.setCell ⟨gb + 2, 3, none⟩ (.slice q8 (vs.length + 1) m8)) (some (gb + 2)) := by
            have s1 := hg7.size
            have s2 := hBw.size
            have s3 := HGR.out.size
            refine ⟨hg7.os.trans (hBw.os.trans HGR.out.os), hg7.tape.trans (hBw.tape.trans HGR.out.tape), hg7.output.trans (hBw.output.trans HGR.out.output), by simp only [World.setCell, Array.size_modify]; omega, fun k hk hne => ?_⟩
            refine (Below.heap_setCell w7 ⟨gb + 2, 3, none⟩ _ k (fun e => hne (by rw [e]))).trans ?_
            refine (hg7.block k (by omega) (fun e => by have := HLT.out k e.symm; omega)).trans ?_
            exact (hBw.block k (by omega)).trans (HGR.out.block k hk hne)
          go_roundg (g.co.length - (vs.length + 1))
          case measure => have := HKF.out; omega
          case rel => exact ⟨vs.length + 1, by go_num, by omega, by have := HKF.out; rw [Hid]; omega, ⟨q8, m8, vs ++ [.slice ql l.length ml], by rw [Hid]; simp, Blk.set (show Blk w7 (gb + 2) _ _ from hk7) 3 _, by rw [Hid, HTK.out]; exact hC7.set (by have := HS6.out; show gb + 2 < _; omega) _⟩, hG7⟩
    · obtain rfl : c = g.co.length := by omega
      have hNx := HNx.out
      have hRx : Blk wx (gb + 1) 27 #[.int .i64 0, .slice none 0 0, .slice none 0 0, .slice none 0 0, .slice none 0 0, .slice none 0 0, .slice none 0 0, .slice none 0 0] := (HGR.out.block (gb + 1) (by have := HS6.out; omega) (by simp)).trans HR6.out
      have hall : (#[.int .i64 g.cells, .slice q1 g.evs.length m1, .slice q2 g.rf.length m2, .slice q3 g.co.length m3, .slice q4 g.rmw.length m4, .slice q5 g.addr.length m5, .slice q6 g.dat.length m6, .slice q7 g.ctrl.length m7] : Array Value).all (·.oneCell') = true := by simp [Value.oneCell']
      have hinf : (Tryz.prog.info? 27).map (·.size) = some (#[.int .i64 g.cells, .slice q1 g.evs.length m1, .slice q2 g.rf.length m2, .slice q3 g.co.length m3, .slice q4 g.rmw.length m4, .slice q5 g.addr.length m5, .slice q6 g.dat.length m6, .slice q7 g.ctrl.length m7] : Array Value).size := by kernel_rfl
      have c3x := c3
      go_upto_region 17 with fail
      go_wp2_with (first | refine wpList_load_row rfl 27 _ rfl (gb + 2) rfl 27 #[.int .i64 g.cells, .slice q1 g.evs.length m1, .slice q2 g.rf.length m2, .slice q3 g.co.length m3, .slice q4 g.rmw.length m4, .slice q5 g.addr.length m5, .slice q6 g.dat.length m6, .slice q7 g.ctrl.length m7] (0, 0) _ hNx Tryz.underlying27 rfl (by kernel_rfl) ?_ | refine wpList_store_row rfl 27 _ _ rfl (gb + 1) #[.int .i64 g.cells, .slice q1 g.evs.length m1, .slice q2 g.rf.length m2, .slice q3 g.co.length m3, .slice q4 g.rmw.length m4, .slice q5 g.addr.length m5, .slice q6 g.dat.length m6, .slice q7 g.ctrl.length m7] rfl rfl 27 #[.int .i64 0, .slice none 0 0, .slice none 0 0, .slice none 0 0, .slice none 0 0, .slice none 0 0, .slice none 0 0, .slice none 0 0] hRx hinf rfl hall ?_)
      (try simp only [Exit.inBlock, Exit.then])
      refine bodyPost_ret (results_cell_row rfl _ _ (gb + 1) 27 #[.int .i64 g.cells, .slice q1 g.evs.length m1, .slice q2 g.rf.length m2, .slice q3 g.co.length m3, .slice q4 g.rmw.length m4, .slice q5 g.addr.length m5, .slice q6 g.dat.length m6, .slice q7 g.ctrl.length m7] (0, 0) _ rfl (hRx.setRow' _) Tryz.underlying27 rfl (by kernel_rfl)) rfl ?_
      have hS6 := HS6.out
      have key : ∀ {base : Nat} {e : TypeId} {size : Nat} {v : Value} {n : Nat} {xs : List Value}, gb + 3 ≤ base → wx.ownsRow base e size v n xs → (wx.setRow (gb + 1) #[.int .i64 g.cells, .slice q1 g.evs.length m1, .slice q2 g.rf.length m2, .slice q3 g.co.length m3, .slice q4 g.rmw.length m4, .slice q5 g.addr.length m5, .slice q6 g.dat.length m6, .slice q7 g.ctrl.length m7]).ownsRow base e size v n xs := fun hb ho => owns_keep ho (fun g' e => setRow_other wx (gb + 1) g' _ (by have := (ho.lt g' e).1; omega))
      have old : ∀ {e : TypeId} {size : Nat} {v : Value} {n : Nat} {xs : List Value}, X6.ownsRow (gb + 3) e size v n xs → (wx.setRow (gb + 1) #[.int .i64 g.cells, .slice q1 g.evs.length m1, .slice q2 g.rf.length m2, .slice q3 g.co.length m3, .slice q4 g.rmw.length m4, .slice q5 g.addr.length m5, .slice q6 g.dat.length m6, .slice q7 g.ctrl.length m7]).ownsRow (gb + 3) e size v n xs := fun ho => key (Nat.le_refl _) (owns_keep ho (fun g' e => HGR.out.block g' (ho.lt g' e).2 (by have := (ho.lt g' e).1; intro h; cases h; omega)))
      have hC9 := HCl.out
      rw [List.take_length] at hC9
      have hC8 : ClR (wx.setRow (gb + 1) #[.int .i64 g.cells, .slice q1 g.evs.length m1, .slice q2 g.rf.length m2, .slice q3 g.co.length m3, .slice q4 g.rmw.length m4, .slice q5 g.addr.length m5, .slice q6 g.dat.length m6, .slice q7 g.ctrl.length m7]) X6.heap.size (.slice q3 g.co.length m3) vs g.co := ⟨key hS6 hC9.own, hC9.rows.len, fun i x l hx hl => key hS6 (hC9.rows.row i x l hx hl), hC9.rows.apart⟩
      refine ⟨⟨.slice q1 g.evs.length m1, .slice q2 g.rf.length m2, .slice q3 g.co.length m3, .slice q4 g.rmw.length m4, .slice q5 g.addr.length m5, .slice q6 g.dat.length m6, .slice q7 g.ctrl.length m7⟩, rfl, ⟨owns_lo (old HO1.out) (by omega), owns_lo (old HO2.out) (by omega), ⟨X6.heap.size, vs, by omega, hC8⟩, owns_lo (old HO4.out) (by omega), owns_lo (old HO5.out) (by omega), owns_lo (old HO6.out) (by omega), owns_lo (old HO7.out) (by omega)⟩, ?_⟩
      rw [hgb]
      exact HBx.out.trans (below_row _ (by omega))
end Go.Proofs.YtjhhimjnoljojaaGreatDoor
namespace Go.Proofs.YtjhhimjnoljojaaGreatDoor
open Go.RowKit Go.Shelf Sx
theorem bad5_hit {g : Gr} {n c : Nat} (hn : g.cells = (n : Int)) (hc : c < n) (h : ∀ j, j < c → bad5c g j = false) (hb : bad5c g c = true) : bad5 g = (c : Int) := by
  have : fstBad (bad5c g) 0 g.cells.toNat = (c : Int) := by
    rw [hn, Int.toNat_natCast]
    exact fstBad_hit (Nat.zero_le _) (by omega) (fun j _ hj => h j hj) hb
  unfold bad5
  rw [this, if_neg (by omega)]
theorem bad5_all {g : Gr} {n : Nat} (hn : g.cells = (n : Int)) (h : ∀ j, j < n → bad5c g j = false) : bad5 g = (if (g.co.length : Int) ≤ (n : Int) then -1 else (n : Int)) := by
  have : fstBad (bad5c g) 0 g.cells.toNat = -1 := by
    rw [hn, Int.toNat_natCast]
    exact fstBad_none (fun j _ hj => h j (by omega))
  unfold bad5
  rw [this, if_pos rfl, hn]
def coAt (g : Gr) (c x : Int) : Bool := isB g.evs x [2] && decide ((g.ev x.toNat).l = c)
theorem coAt_iff {g : Gr} {c x : Int} : coAt g c x = true ↔ ∃ n : Nat, x = ((n : Nat) : Int) ∧ n < g.evs.length ∧ isWr g c n = true := by
  constructor
  · intro h
    obtain ⟨h1, h2⟩ := Bool.and_eq_true_iff.1 h
    obtain ⟨n, rfl, hn⟩ := isB_nat h1
    refine ⟨n, rfl, hn, ?_⟩
    have hk0 : (g.evs.getD n Ev.zero).k = 2 := by
      have := (Bool.and_eq_true_iff.1 h1).2
      rw [Int.toNat_natCast] at this
      simpa using this
    have hk : (g.ev n).k = 2 := hk0
    rw [Int.toNat_natCast] at h2
    unfold isWr
    rw [decide_eq_true hk, h2]
    rfl
  · rintro ⟨n, rfl, hn, hw⟩
    obtain ⟨h1, h2⟩ := Bool.and_eq_true_iff.1 hw
    have hk := of_decide_eq_true h1
    have he : (g.evs.getD n Ev.zero).k = 2 := hk
    unfold coAt isB
    rw [Int.toNat_natCast, h2, decide_eq_true (by omega : (0 : Int) ≤ (n : Int)), decide_eq_true (by omega : ((n : Nat) : Int) < (g.evs.length : Int)), he]
    rfl
def coUp (g : Gr) (c : Int) (l : List Int) (k : Nat) : Prop := (∀ (i : Nat) (x : Int), i < k → l[i]? = some x → coAt g c x = true) ∧ ∀ (i j : Nat) (x : Int), i < k → j < i → l[i]? = some x → l[j]? ≠ some x
theorem coUp_zero (g : Gr) (c : Int) (l : List Int) : coUp g c l 0 := ⟨fun i x h => by omega, fun i j x h => by omega⟩
theorem coUp_succ {g : Gr} {c : Int} {l : List Int} {k : Nat} {x : Int} (h : coUp g c l k) (hx : l[k]? = some x) (ha : coAt g c x = true) (hn : ∀ t, t < k → l[t]? ≠ some x) : coUp g c l (k + 1) := by
  refine ⟨fun i y hi hy => ?_, fun i j y hi hj hy => ?_⟩
  · by_cases e : i = k
    · subst e
      rw [hx] at hy
      cases hy
      exact ha
    · exact h.1 i y (by omega) hy
  · by_cases e : i = k
    · subst e
      rw [hx] at hy
      cases hy
      exact hn j hj
    · exact h.2 i j y (by omega) hj hy
theorem coUp_all {g : Gr} {c : Int} {l : List Int} (h : coUp g c l l.length) : coOk g c l := by
  refine ⟨fun i x hx => coAt_iff.1 (h.1 i x (List.getElem?_eq_some_iff.1 hx).1 hx), fun i j x hj hx => h.2 i j x (List.getElem?_eq_some_iff.1 hx).1 hj hx⟩
set_option linter.unusedSimpArgs false in
set_option maxRecDepth 100000 in
set_option maxHeartbeats 16000000 in
theorem r8co_calls (V : GrV) (g : Gr) (q : Bool) (w : World) (h : GrR w V g) (h1 : bad1 g = false) (h2 : bad2 g q = -1) : Calls Tryz.prog 42 #[V.val g] w fun r w' => r = .returned (.int .i64 (bad5 g)) ∧ Below w.heap.size w w' := by
  have hsz : 0 ≤ g.cells ∧ g.cells ≤ (g.evs.length : Int) ∧ g.evs.length ≤ 256 := by
    simp [bad1] at h1
    omega
  obtain ⟨nc, hn⟩ : ∃ n : Nat, g.cells = (n : Int) := ⟨g.cells.toNat, by omega⟩
  have hl256 := hsz.2.2
  have hnl : nc ≤ g.evs.length := by omega
  obtain ⟨Ve, Vr, Vc, Vm, Va, Vd, Vt⟩ := V
  obtain ⟨pe, ce, ee, hp, _⟩ := h.ev
  obtain ⟨pc, cc2, ec, hcl, hco⟩ := coarg_form h.co
  dsimp only at ee ec
  subst ee
  subst ec
  have HP := hid_of hp
  have HCO := hid_of hco
  have H := hid_of h
  have H1 := hid_of h1
  have H2 := hid_of h2
  have HN := hid_of hn
  generalize hr : bad5 g = res
  have HR := hid_of hr
  have hB : Below w.heap.size w (w.alloc (.cells #[.int .i64 ((nc : Nat) : Int), .slice pe g.evs.length ce, Vr, .slice pc g.co.length cc2, Vm, Va, Vd, Vt] 27)) := (Below.refl _ _).alloc (Nat.le_refl _) _
  have hb := Blk.new w 27 #[.int .i64 ((nc : Nat) : Int), .slice pe g.evs.length ce, Vr, .slice pc g.co.length cc2, Vm, Va, Vd, Vt]
  unfold GrV.val
  dsimp only
  rw [hn]
  clear hr hp h hco h1 h2 hsz hn
  go_enter Tryz.func42, Tryz.ntmps42
  go_wp2_with fail
  have HB := hid_of hB
  have HG := hid_of hb
  generalize w.alloc (.cells #[.int .i64 ((nc : Nat) : Int), .slice pe g.evs.length ce, Vr, .slice pc g.co.length cc2, Vm, Va, Vd, Vt] 27) = W0 at *
  clear hb hB
  go_loopg [3] nc (fun f v3 wr => ∃ c : Nat, v3 = .int .i64 ((c : Nat) : Int) ∧ c ≤ nc ∧ c ≤ g.co.length ∧ Hid (c + f = nc) ∧ Hid (∀ j, j < c → bad5c g j = false) ∧ Hid (Below W0.heap.size W0 wr))
  case atStart => exact ⟨0, rfl, Nat.zero_le _, Nat.zero_le _, Nat.zero_add _, (fun j h => by omega), Below.refl _ _⟩
  case round =>
    obtain ⟨c, rfl, hcn, hcc, HKF, HALL, HW⟩ := hrel
    generalize hwq : wr = wa at *
    clear hwq
    have HBW : Hid (Below w.heap.size w wa) := below_step HB.out HB.out.size HW.out
    have hG := HG.out.of_below HW.out
    have c0 : wa.cell? ⟨w.heap.size, 0, none⟩ = some (.int .i64 ((nc : Nat) : Int)) := hG.cell rfl
    have c1 : wa.cell? ⟨w.heap.size, 1, none⟩ = some (.slice pe g.evs.length ce) := hG.cell rfl
    have c3 : wa.cell? ⟨w.heap.size, 3, none⟩ = some (.slice pc g.co.length cc2) := hG.cell rfl
    clear hG
    have C0 : (0 : Int) ≤ ((c : Nat) : Int) := by omega
    by_cases hlt : c < nc ∧ c < g.co.length
    · obtain ⟨hl1, hl2⟩ := hlt
      have C1 : ((c : Nat) : Int) < ((g.co.length : Nat) : Int) := by omega
      have C2 : ((c : Nat) : Int) < ((nc : Nat) : Int) := by omega
      obtain ⟨l, hl⟩ : ∃ l, g.co[c]? = some l := ⟨_, List.getElem?_eq_getElem hl2⟩
      obtain ⟨sc, oc, u, rfl, hsc, hcu, hiu, hul⟩ := HCO.out c l hl
      obtain ⟨pl, cl, rfl, hpl⟩ := intsR_form hiu
      have x0 : wa.cell? ⟨sc, oc + c, none⟩ = some (.slice pl l.length cl) := (HBW.out.cell (p := ⟨sc, oc + c, none⟩) hsc).trans hcu
      have HPL := hid_of hpl
      have HBAD : Hid (isOrdB l ((c : Nat) : Int) (wrs g ((c : Nat) : Int) g.evs.length) = false → res = ((c : Nat) : Int)) := fun h => by
        rw [← HR.out]
        refine bad5_hit HN.out hl1 HALL.out ?_
        unfold bad5c
        rw [List.getD_eq_getElem?_getD, hl]
        simp [h]
      have HOKN : Hid (isOrdB l ((c : Nat) : Int) (wrs g ((c : Nat) : Int) g.evs.length) = true → ∀ j, j < c + 1 → bad5c g j = false) := fun h j hj => by
        by_cases e : j = c
        · subst e
          unfold bad5c
          rw [List.getD_eq_getElem?_getD, hl]
          simp [h]
          omega
        · exact HALL.out j (by omega)
      have hws : 0 < (wrs g ((c : Nat) : Int) g.evs.length).length := List.length_pos_iff.2 (wrs_ini H1.out H2.out (c := c) (by rw [HN.out]; omega))
      have HWS := hid_of hws
      clear hl hcu hiu hpl hws
      by_cases hl0 : l.length = 0
      · obtain rfl := HBAD.out (by
          cases e : isOrdB l ((c : Nat) : Int) (wrs g ((c : Nat) : Int) g.evs.length)
          · rfl
          · have := (ord_parts e).1; have := HWS.out; omega)
        have q0 : (((l.length : Nat) : Int) == 0) = true := by rw [hl0]; rfl
        clear hl0
        go_wp2_with fail
        go_ret
        exact ⟨rfl, HBW.out⟩
      · have q0 : (((l.length : Nat) : Int) == 0) = false := by rw [beq_eq_false_iff_ne]; omega
        obtain ⟨sl, ol, rfl, hsl, hcl3⟩ := HPL.out (by omega)
        have L0 : 0 < l.length := by omega
        have LP : (0 : Int) < ((l.length : Nat) : Int) := by omega
        obtain ⟨xf, hxf⟩ : ∃ x, l[0]? = some x := ⟨_, List.getElem?_eq_getElem L0⟩
        have y0 : wa.cell? ⟨sl, ol, none⟩ = some (.int .i64 xf) := (HBW.out.cell (p := ⟨sl, ol, none⟩) hsl).trans (hcl3 0 xf hxf)
        have HXF : Hid (l.getD 0 0 = xf) := by rw [Hid, List.getD_eq_getElem?_getD, hxf]; rfl
        have HCL3 := hid_of hcl3
        clear hl0 hxf hcl3
        by_cases hfc : xf = ((c : Nat) : Int)
        · subst hfc
          have q1 : ((((c : Nat) : Int)) != ((c : Nat) : Int)) = false := by simp
          go_wp2_with fail
          clear c0 c3 x0 y0 q0 q1
          go_loopg [5, 6] g.evs.length (fun f v5 v6 wr => ∃ i : Nat, v6 = .int .i64 ((i : Nat) : Int) ∧ v5 = .int .i64 (((wrs g ((c : Nat) : Int) i).length : Nat) : Int) ∧ i ≤ g.evs.length ∧ Hid (i + f = g.evs.length) ∧ wr = wa)
          case atStart => exact ⟨0, rfl, rfl, Nat.zero_le _, Nat.zero_add _, rfl⟩
          case round =>
            obtain ⟨i, rfl, rfl, hi0, HKG, rfl⟩ := hrel
            have I0 : (0 : Int) ≤ ((i : Nat) : Int) := by omega
            by_cases hil : i < g.evs.length
            · have I1 : ((i : Nat) : Int) < ((g.evs.length : Nat) : Int) := by omega
              obtain ⟨s, o, rfl, hat⟩ := HP.out (by omega)
              have x1 := (hat.below HBW.out).c1 i _ (Gr.ev_at hil)
              have x2 := (hat.below HBW.out).c2 i _ (Gr.ev_at hil)
              have hwl := wrs_len g ((c : Nat) : Int) i
              clear hat
              by_cases hk : (g.ev i).k = 2
              · have q2 : (((g.ev i).k : Int) == 2) = true := by rw [beq_iff_eq]; exact hk
                by_cases hlc : (g.ev i).l = ((c : Nat) : Int)
                · have q3 : (((g.ev i).l : Int) == ((c : Nat) : Int)) = true := by rw [beq_iff_eq]; exact hlc
                  have HS : Hid ((wrs g ((c : Nat) : Int) (i + 1)).length = (wrs g ((c : Nat) : Int) i).length + 1) := by rw [Hid, wrs_hit (by simp [isWr, hk, hlc])]; simp
                  clear hk hlc
                  generalize (wrs g ((c : Nat) : Int) i).length = nn at *
                  go_wp2_with fail
                  go_roundg (g.evs.length - (i + 1))
                  case measure => have := HKG.out; omega
                  case rel => exact ⟨i + 1, by go_num, by rw [HS.out]; go_num, by omega, by have := HKG.out; rw [Hid]; omega, rfl⟩
                · have q3 : (((g.ev i).l : Int) == ((c : Nat) : Int)) = false := by rw [beq_eq_false_iff_ne]; exact hlc
                  have HS : Hid ((wrs g ((c : Nat) : Int) (i + 1)).length = (wrs g ((c : Nat) : Int) i).length) := by rw [Hid, wrs_miss (by simp [isWr, hlc])]
                  clear hk hlc
                  go_wp2_with fail
                  go_roundg (g.evs.length - (i + 1))
                  case measure => have := HKG.out; omega
                  case rel => exact ⟨i + 1, by go_num, by rw [HS.out], by omega, by have := HKG.out; rw [Hid]; omega, rfl⟩
              · have q2 : (((g.ev i).k : Int) == 2) = false := by rw [beq_eq_false_iff_ne]; exact hk
                have HS : Hid ((wrs g ((c : Nat) : Int) (i + 1)).length = (wrs g ((c : Nat) : Int) i).length) := by rw [Hid, wrs_miss (by simp [isWr, hk])]
                clear hk
                go_wp2_with fail
                go_roundg (g.evs.length - (i + 1))
                case measure => have := HKG.out; omega
                case rel => exact ⟨i + 1, by go_num, by rw [HS.out], by omega, by have := HKG.out; rw [Hid]; omega, rfl⟩
            · obtain rfl : i = g.evs.length := by omega
              by_cases hll : l.length = (wrs g ((c : Nat) : Int) g.evs.length).length
              · have q4 : (((l.length : Nat) : Int) != (((wrs g ((c : Nat) : Int) g.evs.length).length : Nat) : Int)) = false := by rw [hll]; simp
                have HORD : Hid (coOk g ((c : Nat) : Int) l → isOrdB l ((c : Nat) : Int) (wrs g ((c : Nat) : Int) g.evs.length) = true) := fun h => ord_of_co hll HXF.out h
                have HNOT : Hid (¬ coOk g ((c : Nat) : Int) l → isOrdB l ((c : Nat) : Int) (wrs g ((c : Nat) : Int) g.evs.length) = false) := fun h => by
                  cases e : isOrdB l ((c : Nat) : Int) (wrs g ((c : Nat) : Int) g.evs.length)
                  · rfl
                  · exact absurd (co_of_ord e).2.2 h
                clear hll hil
                generalize (wrs g ((c : Nat) : Int) g.evs.length).length = nw at *
                go_wp2_with fail
                clear q4 c1
                go_loopg [7] l.length (fun f v7 wr => ∃ i : Nat, v7 = .int .i64 ((i : Nat) : Int) ∧ i ≤ l.length ∧ Hid (i + f = l.length) ∧ Hid (coUp g ((c : Nat) : Int) l i) ∧ Hid (Below W0.heap.size W0 wr))
                case atStart => exact ⟨0, rfl, Nat.zero_le _, Nat.zero_add _, coUp_zero _ _ _, HW.out⟩
                case round =>
                  obtain ⟨ii, rfl, hi1, HKH, HUP, HW2⟩ := hrel
                  generalize hwq2 : wr = wb at *
                  clear hwq2
                  have HBb : Hid (Below w.heap.size w wb) := below_step HB.out HB.out.size HW2.out
                  have J0 : (0 : Int) ≤ ((ii : Nat) : Int) := by omega
                  by_cases hil2 : ii < l.length
                  · have J1 : ((ii : Nat) : Int) < ((l.length : Nat) : Int) := by omega
                    obtain ⟨x, hx⟩ : ∃ x, l[ii]? = some x := ⟨_, List.getElem?_eq_getElem hil2⟩
                    have HXX := hid_of hx
                    have HGb := hid_of (HG.out.of_below HW2.out)
                    have HSL : Hid (sl < wb.heap.size) := Nat.lt_of_lt_of_le hsl HBb.out.size
                    have z9 : wb.cell? ⟨sl, ol + ii, none⟩ = some (.int .i64 x) := (HBb.out.cell (p := ⟨sl, ol + ii, none⟩) hsl).trans (HCL3.out ii x hx)
                    have HC0 := hid_of (r8is_calls _ g x 2 wb.drew (H.out.below HBb.out.drew))
                    unfold GrV.val at HC0
                    dsimp only at HC0
                    rw [HN.out] at HC0
                    clear hx
                    go_upto_region 18 with fail
                    generalize hgbn : w.heap.size = gb at *
                    have HZ : Hid (∀ W, Below wb.heap.size wb W → W.cell? ⟨gb, 0, none⟩ = some (.int .i64 ((nc : Nat) : Int)) ∧ W.cell? ⟨gb, 1, none⟩ = some (.slice pe g.evs.length ce) ∧ W.cell? ⟨gb, 2, none⟩ = some (Vr) ∧ W.cell? ⟨gb, 3, none⟩ = some (.slice (some ⟨sc, oc, none⟩) g.co.length cc2) ∧ W.cell? ⟨gb, 4, none⟩ = some (Vm) ∧ W.cell? ⟨gb, 5, none⟩ = some (Va) ∧ W.cell? ⟨gb, 6, none⟩ = some (Vd) ∧ W.cell? ⟨gb, 7, none⟩ = some (Vt) ∧ W.cell? ⟨sl, ol + ii, none⟩ = some (.int .i64 x)) := fun W hW => ⟨(HGb.out.of_below hW).cell rfl, (HGb.out.of_below hW).cell rfl, (HGb.out.of_below hW).cell rfl, (HGb.out.of_below hW).cell rfl, (HGb.out.of_below hW).cell rfl, (HGb.out.of_below hW).cell rfl, (HGb.out.of_below hW).cell rfl, (HGb.out.of_below hW).cell rfl, (hW.cell (p := ⟨sl, ol + ii, none⟩) HSL.out).trans z9⟩
                    clear z9
                    go_cut [94] (fun v94 wx => v94 = .bool (!(coAt g ((c : Nat) : Int) x)) ∧ Hid (Below wb.heap.size wb wx))
                    case rest =>
                      obtain ⟨rfl, HX⟩ := hcut
                      generalize hwz : wc = wz at *
                      clear hwz
                      have HXW : Hid (Below gb w wz) := HBb.out.trans (HX.out.mono (by rw [← hgbn]; exact HBb.out.size))
                      have HWZ : Hid (Below W0.heap.size W0 wz) := HW2.out.trans (HX.out.mono HW2.out.size)
                      cases hok : coAt g ((c : Nat) : Int) x
                      · obtain rfl := HBAD.out (HNOT.out (fun h => by
                          have := coAt_iff.2 (h.1 ii x HXX.out)
                          rw [hok] at this
                          cases this))
                        clear hok
                        go_wp2_with fail
                        go_ret
                        exact ⟨rfl, HXW.out⟩
                      · have HOK := hid_of hok
                        clear hok
                        go_wp2_with fail
                        go_loopg [8] ii (fun f v8 wr => ∃ j : Nat, v8 = .int .i64 ((j : Nat) : Int) ∧ j ≤ ii ∧ Hid (j + f = ii) ∧ Hid (∀ t, t < j → l[t]? ≠ some x) ∧ Hid (Below wz.heap.size wz wr))
                        case atStart => exact ⟨0, rfl, Nat.zero_le _, Nat.zero_add _, (fun t h => by omega), Below.refl _ _⟩
                        case round =>
                          obtain ⟨j, rfl, hj1, HKJ, HNO, HV⟩ := hrel
                          generalize hwy : wr = wy at *
                          clear hwy
                          have HYW : Hid (Below gb w wy) := HXW.out.trans (HV.out.mono (by rw [← hgbn]; exact HXW.out.size))
                          have P0 : (0 : Int) ≤ ((j : Nat) : Int) := by omega
                          by_cases hji : j < ii
                          · have P1 : ((j : Nat) : Int) < ((ii : Nat) : Int) := by omega
                            have P2 : ((j : Nat) : Int) < ((l.length : Nat) : Int) := by omega
                            obtain ⟨y, hy⟩ : ∃ y, l[j]? = some y := ⟨_, List.getElem?_eq_getElem (by omega)⟩
                            have z1 : wy.cell? ⟨sl, ol + j, none⟩ = some (.int .i64 y) := (HYW.out.cell (p := ⟨sl, ol + j, none⟩) hsl).trans (HCL3.out j y hy)
                            have z2 : wy.cell? ⟨sl, ol + ii, none⟩ = some (.int .i64 x) := (HYW.out.cell (p := ⟨sl, ol + ii, none⟩) hsl).trans (HCL3.out ii x HXX.out)
                            by_cases hxy : y = x
                            · have q5 : ((y : Int) == x) = true := by rw [beq_iff_eq]; exact hxy
                              obtain rfl := HBAD.out (HNOT.out (fun h => h.2 ii j x hji HXX.out (by rw [hy, hxy])))
                              clear hxy hy
                              go_wp2_with fail
                              go_quiet (fail)
                              go_wp2_with fail
                              go_ret
                              exact ⟨rfl, by rw [hgbn]; exact below_drewN HYW.out _⟩
                            · have q5 : ((y : Int) == x) = false := by rw [beq_eq_false_iff_ne]; exact hxy
                              have HNO2 : Hid (∀ t, t < j + 1 → l[t]? ≠ some x) := fun t ht => by
                                by_cases e : t = j
                                · rw [e, hy]; simpa using hxy
                                · exact HNO.out t (by omega)
                              clear hxy hy
                              go_wp2_with fail
                              go_quiet (fail)
                              go_wp2_with fail
                              go_roundg (ii - (j + 1))
                              case measure => have := HKJ.out; omega
                              case rel => exact ⟨j + 1, by go_num, by omega, by have := HKJ.out; rw [Hid]; omega, HNO2.out, below_drewN HV.out _⟩
                          · have P1 : ¬ (((j : Nat) : Int) < ((ii : Nat) : Int)) := by omega
                            have HUP2 : Hid (coUp g ((c : Nat) : Int) l (ii + 1)) := coUp_succ HUP.out HXX.out HOK.out (fun t ht => HNO.out t (by omega))
                            go_wp2_with fail
                            go_roundg (l.length - (ii + 1))
                            case measure => have := HKH.out; omega
                            case rel => exact ⟨ii + 1, by go_num, by omega, by have := HKH.out; rw [Hid]; omega, HUP2.out, HWZ.out.trans (HV.out.mono HWZ.out.size)⟩
                    case first =>
                    cases his : isB g.evs x [2]
                    · rw [his] at HC0
                      have HC := HC0
                      have HO : Hid (coAt g ((c : Nat) : Int) x = false) := by rw [Hid]; unfold coAt; rw [his]; rfl
                      clear HC0 his
                      refine wp_region_held_drew (S := (fun w' => w'.cell? ⟨gb, 0, none⟩ = some (.int .i64 ((nc : Nat) : Int)) ∧ w'.cell? ⟨gb, 1, none⟩ = some (.slice pe g.evs.length ce) ∧ w'.cell? ⟨gb, 2, none⟩ = some (Vr) ∧ w'.cell? ⟨gb, 3, none⟩ = some (.slice (some ⟨sc, oc, none⟩) g.co.length cc2) ∧ w'.cell? ⟨gb, 4, none⟩ = some (Vm) ∧ w'.cell? ⟨gb, 5, none⟩ = some (Va) ∧ w'.cell? ⟨gb, 6, none⟩ = some (Vd) ∧ w'.cell? ⟨gb, 7, none⟩ = some (Vt) ∧ w'.cell? ⟨sl, ol + ii, none⟩ = some (.int .i64 x))) (by kernel_rfl) (HZ.out _ (Below.refl _ _).drew) (fun hHeld => ?_)
                      refine tk 0 rfl ?_; simp only [zz]
                      refine tk 1 rfl ?_; simp only [zz]
                      refine tk 2 rfl ?_; simp only [zz]
                      refine tk 3 rfl ?_; simp only [zz]
                      refine tk 4 rfl ?_; simp only [zz]
                      refine wpAnyH_ready (rs := [5]) (by kernel_rfl) (by simp) ?_
                      refine AllReadyH.cons rfl (fun K hK => ?_) AllReadyH.nil
                      simp only [z1, z2, z3]
                      go_simp
                      refine HC.out.mono ?_
                      rintro e w5 ⟨rfl, hB5⟩
                      have hX5 : Below wb.heap.size wb w5 := ((Below.refl wb.heap.size wb).drew).trans hB5
                      refine hK.out _ _ (HZ.out w5 hX5) (fun hHeld => ?_)
                      clear hK K
                      try simp only [zz]
                      refine tk 6 rfl ?_; simp only [zz]
                      refine tk 7 rfl ?_; simp only [zz]
                      refine tu 8 rfl ?_; simp only [zz]
                      refine tu 9 rfl ?_; simp only [zz]
                      refine tu 10 rfl ?_; simp only [zz]
                      refine tu 11 rfl ?_; simp only [zz]
                      refine tu 12 rfl ?_; simp only [zz]
                      refine tu 13 rfl ?_; simp only [zz]
                      refine tu 14 rfl ?_; simp only [zz]
                      refine tu 15 rfl ?_; simp only [zz]
                      refine tu 16 rfl ?_; simp only [zz]
                      refine tu 17 rfl ?_; simp only [zz]
                      refine tu 18 rfl ?_; simp only [zz]
                      refine tk 19 rfl ?_; simp only [zz]
                      refine wpAnyH_done (by kernel_rfl) ?_ _
                      go_wp2_with fail
                      go_meet
                      exact ⟨by rw [HO.out]; rfl, hX5⟩
                    · rw [his] at HC0
                      have HC := HC0
                      obtain ⟨n, rfl, hn⟩ := isB_nat his
                      have N0 : (0 : Int) ≤ ((n : Nat) : Int) := by omega
                      have N1 : ((n : Nat) : Int) < ((g.evs.length : Nat) : Int) := by omega
                      obtain ⟨s, o, rfl, hat⟩ := HP.out (by omega)
                      have z0 := (hat.below (by rw [hgbn]; exact HBb.out)).c2 n _ (Gr.ev_at hn)
                      have hs := (hat.below (by rw [hgbn]; exact HBb.out)).lt
                      have HO5 : Hid (coAt g ((c : Nat) : Int) ((n : Nat) : Int) = decide ((g.ev n).l = ((c : Nat) : Int))) := by rw [Hid]; unfold coAt; rw [his, Int.toNat_natCast, Bool.true_and]
                      generalize (g.ev n).l = la at *
                      have HZ2 : Hid (∀ W, Below wb.heap.size wb W → W.cell? ⟨gb, 0, none⟩ = some (.int .i64 ((nc : Nat) : Int)) ∧ W.cell? ⟨gb, 1, none⟩ = some (.slice (some ⟨s, o, none⟩) g.evs.length ce) ∧ W.cell? ⟨gb, 2, none⟩ = some (Vr) ∧ W.cell? ⟨gb, 3, none⟩ = some (.slice (some ⟨sc, oc, none⟩) g.co.length cc2) ∧ W.cell? ⟨gb, 4, none⟩ = some (Vm) ∧ W.cell? ⟨gb, 5, none⟩ = some (Va) ∧ W.cell? ⟨gb, 6, none⟩ = some (Vd) ∧ W.cell? ⟨gb, 7, none⟩ = some (Vt) ∧ W.cell? ⟨sl, ol + ii, none⟩ = some (.int .i64 ((n : Nat) : Int)) ∧ W.cell? ⟨s, o + n * 5 + 2, none⟩ = some (.int .i64 la)) := fun W hW => by
                        obtain ⟨a0, a1, a2, a3, a4, a5, a6, a7, a8⟩ := HZ.out W hW
                        exact ⟨a0, a1, a2, a3, a4, a5, a6, a7, a8, (hW.cell (p := ⟨s, o + n * 5 + 2, none⟩) hs).trans z0⟩
                      clear HC0 his z0 hat
                      by_cases hll : la = ((c : Nat) : Int)
                      · have q3 : ((la : Int) != ((c : Nat) : Int)) = false := by simp [hll]
                        have HO : Hid (coAt g ((c : Nat) : Int) ((n : Nat) : Int) = true) := by rw [Hid, HO5.out, decide_eq_true hll]
                        clear hll
                        refine wp_region_held_drew (S := (fun w' => w'.cell? ⟨gb, 0, none⟩ = some (.int .i64 ((nc : Nat) : Int)) ∧ w'.cell? ⟨gb, 1, none⟩ = some (.slice (some ⟨s, o, none⟩) g.evs.length ce) ∧ w'.cell? ⟨gb, 2, none⟩ = some (Vr) ∧ w'.cell? ⟨gb, 3, none⟩ = some (.slice (some ⟨sc, oc, none⟩) g.co.length cc2) ∧ w'.cell? ⟨gb, 4, none⟩ = some (Vm) ∧ w'.cell? ⟨gb, 5, none⟩ = some (Va) ∧ w'.cell? ⟨gb, 6, none⟩ = some (Vd) ∧ w'.cell? ⟨gb, 7, none⟩ = some (Vt) ∧ w'.cell? ⟨sl, ol + ii, none⟩ = some (.int .i64 ((n : Nat) : Int)) ∧ w'.cell? ⟨s, o + n * 5 + 2, none⟩ = some (.int .i64 la))) (by kernel_rfl) (HZ2.out _ (Below.refl _ _).drew) (fun hHeld => ?_)
                        refine tk 0 rfl ?_; simp only [zz]
                        refine tk 1 rfl ?_; simp only [zz]
                        refine tk 2 rfl ?_; simp only [zz]
                        refine tk 3 rfl ?_; simp only [zz]
                        refine tk 4 rfl ?_; simp only [zz]
                        refine wpAnyH_ready (rs := [5]) (by kernel_rfl) (by simp) ?_
                        refine AllReadyH.cons rfl (fun K hK => ?_) AllReadyH.nil
                        simp only [z1, z2, z3]
                        go_simp
                        refine HC.out.mono ?_
                        rintro e w5 ⟨rfl, hB5⟩
                        have hX5 : Below wb.heap.size wb w5 := ((Below.refl wb.heap.size wb).drew).trans hB5
                        refine hK.out _ _ (HZ2.out w5 hX5) (fun hHeld => ?_)
                        clear hK K
                        try simp only [zz]
                        refine tk 6 rfl ?_; simp only [zz]
                        refine tk 7 rfl ?_; simp only [zz]
                        refine tk 8 rfl ?_; simp only [zz]
                        refine tk 9 rfl ?_; simp only [zz]
                        refine tk 10 rfl ?_; simp only [zz]
                        refine tk 11 rfl ?_; simp only [zz]
                        refine tk 12 rfl ?_; simp only [zz]
                        refine tk 13 rfl ?_; simp only [zz]
                        refine tk 14 rfl ?_; simp only [zz]
                        refine tk 15 rfl ?_; simp only [zz]
                        refine tk 16 rfl ?_; simp only [zz]
                        refine tk 17 rfl ?_; simp only [zz]
                        refine tk 18 rfl ?_; simp only [zz]
                        refine tk 19 rfl ?_; simp only [zz]
                        refine wpAnyH_done (by kernel_rfl) ?_ _
                        go_wp2_with fail
                        go_meet
                        exact ⟨by rw [HO.out]; rfl, hX5⟩
                      · have q3 : ((la : Int) != ((c : Nat) : Int)) = true := by simp [hll]
                        have HO : Hid (coAt g ((c : Nat) : Int) ((n : Nat) : Int) = false) := by rw [Hid, HO5.out, decide_eq_false hll]
                        clear hll
                        refine wp_region_held_drew (S := (fun w' => w'.cell? ⟨gb, 0, none⟩ = some (.int .i64 ((nc : Nat) : Int)) ∧ w'.cell? ⟨gb, 1, none⟩ = some (.slice (some ⟨s, o, none⟩) g.evs.length ce) ∧ w'.cell? ⟨gb, 2, none⟩ = some (Vr) ∧ w'.cell? ⟨gb, 3, none⟩ = some (.slice (some ⟨sc, oc, none⟩) g.co.length cc2) ∧ w'.cell? ⟨gb, 4, none⟩ = some (Vm) ∧ w'.cell? ⟨gb, 5, none⟩ = some (Va) ∧ w'.cell? ⟨gb, 6, none⟩ = some (Vd) ∧ w'.cell? ⟨gb, 7, none⟩ = some (Vt) ∧ w'.cell? ⟨sl, ol + ii, none⟩ = some (.int .i64 ((n : Nat) : Int)) ∧ w'.cell? ⟨s, o + n * 5 + 2, none⟩ = some (.int .i64 la))) (by kernel_rfl) (HZ2.out _ (Below.refl _ _).drew) (fun hHeld => ?_)
                        refine tk 0 rfl ?_; simp only [zz]
                        refine tk 1 rfl ?_; simp only [zz]
                        refine tk 2 rfl ?_; simp only [zz]
                        refine tk 3 rfl ?_; simp only [zz]
                        refine tk 4 rfl ?_; simp only [zz]
                        refine wpAnyH_ready (rs := [5]) (by kernel_rfl) (by simp) ?_
                        refine AllReadyH.cons rfl (fun K hK => ?_) AllReadyH.nil
                        simp only [z1, z2, z3]
                        go_simp
                        refine HC.out.mono ?_
                        rintro e w5 ⟨rfl, hB5⟩
                        have hX5 : Below wb.heap.size wb w5 := ((Below.refl wb.heap.size wb).drew).trans hB5
                        refine hK.out _ _ (HZ2.out w5 hX5) (fun hHeld => ?_)
                        clear hK K
                        try simp only [zz]
                        refine tk 6 rfl ?_; simp only [zz]
                        refine tk 7 rfl ?_; simp only [zz]
                        refine tk 8 rfl ?_; simp only [zz]
                        refine tk 9 rfl ?_; simp only [zz]
                        refine tk 10 rfl ?_; simp only [zz]
                        refine tk 11 rfl ?_; simp only [zz]
                        refine tk 12 rfl ?_; simp only [zz]
                        refine tk 13 rfl ?_; simp only [zz]
                        refine tk 14 rfl ?_; simp only [zz]
                        refine tk 15 rfl ?_; simp only [zz]
                        refine tk 16 rfl ?_; simp only [zz]
                        refine tk 17 rfl ?_; simp only [zz]
                        refine tk 18 rfl ?_; simp only [zz]
                        refine tk 19 rfl ?_; simp only [zz]
                        refine wpAnyH_done (by kernel_rfl) ?_ _
                        go_wp2_with fail
                        go_meet
                        exact ⟨by rw [HO.out]; rfl, hX5⟩
                  · obtain rfl : ii = l.length := by omega
                    have HALL2 := hid_of (HOKN.out (HORD.out (coUp_all HUP.out)))
                    go_wp2_with fail
                    go_roundg (nc - (c + 1))
                    case measure => have := HKF.out; omega
                    case rel => exact ⟨c + 1, by go_num, by omega, by omega, by have := HKF.out; rw [Hid]; omega, HALL2.out, HW2.out⟩
              · have q4 : (((l.length : Nat) : Int) != (((wrs g ((c : Nat) : Int) g.evs.length).length : Nat) : Int)) = true := by rw [bne_iff_ne]; omega
                obtain rfl := HBAD.out (by
                  cases e : isOrdB l ((c : Nat) : Int) (wrs g ((c : Nat) : Int) g.evs.length)
                  · rfl
                  · exact absurd (ord_parts e).1 hll)
                clear hll
                go_wp2_with fail
                go_ret
                exact ⟨rfl, HBW.out⟩
        · have q1 : ((xf : Int) != ((c : Nat) : Int)) = true := by rw [bne_iff_ne]; exact hfc
          obtain rfl := HBAD.out (by
            cases e : isOrdB l ((c : Nat) : Int) (wrs g ((c : Nat) : Int) g.evs.length)
            · rfl
            · exact absurd (HXF.out.symm.trans (ord_parts e).2.1) hfc)
          clear hfc
          go_wp2_with fail
          go_ret
          exact ⟨rfl, HBW.out⟩
    · by_cases hcn2 : c < nc
      · obtain rfl : c = g.co.length := by omega
        obtain rfl : res = ((g.co.length : Nat) : Int) := by
          rw [← HR.out]
          exact bad5_hit HN.out hcn2 HALL.out (by unfold bad5c; rw [decide_eq_true (Nat.le_refl _)]; rfl)
        have d1 : ((g.co.length : Nat) : Int) < ((nc : Nat) : Int) := by omega
        go_wp2_with fail
        go_ret
        exact ⟨rfl, HBW.out⟩
      · obtain rfl : c = nc := by omega
        have e5 := HR.out.symm.trans (bad5_all HN.out HALL.out)
        by_cases hle : (g.co.length : Int) ≤ (c : Int)
        · rw [if_pos hle] at e5
          subst e5
          have d1 : ¬ (((g.co.length : Nat) : Int) < ((c : Nat) : Int)) := by omega
          go_wp2_with fail
          go_ret
          exact ⟨rfl, HBW.out⟩
        · rw [if_neg hle] at e5
          subst e5
          have d1 : ¬ (((g.co.length : Nat) : Int) < ((c : Nat) : Int)) := by omega
          have d2 : ((c : Nat) : Int) < ((g.co.length : Nat) : Int) := by omega
          go_wp2_with fail
          go_ret
          exact ⟨rfl, HBW.out⟩
end Go.Proofs.YtjhhimjnoljojaaGreatDoor
namespace Go.Proofs.YtjhhimjnoljojaaGreatDoor
open Go.RowKit Go.Shelf Sx
theorem chk_is {p : Int × Int} {x y a b : Int} (h : p = (x, y)) (h2 : p = (a, b)) : x = a ∧ y = b := by
  rw [h] at h2
  exact ⟨congrArg Prod.fst h2, congrArg Prod.snd h2⟩
theorem chk_one {g : Gr} {q : Bool} (h : bad1 g = true) : chk g q = (1, 0) := by
  have e : rl g q 0 = 0 := by unfold rl; rw [h]; rfl
  rw [chk_hit (k := 0) (by omega) (fun j h => by omega) (by rw [e]; omega), e]
  rfl
theorem fst_two {P : Nat → Bool} : ∀ {a f : Nat}, fstBad P a f = -1 ∨ 0 ≤ fstBad P a f
  | _, 0 => .inl rfl
  | a, f + 1 => by
    rw [fstBad]
    by_cases h : P a = true
    · rw [if_pos h]; exact .inr (by omega)
    · rw [if_neg h]; exact fst_two
theorem bad4_two (g : Gr) : bad4 g = -1 ∨ 0 ≤ bad4 g := by
  unfold bad4
  have h := fst_two (P := fun i => !(ok4a g i (g.rf.getD i (0, 0)) && ok4b g (g.rf.getD i (0, 0)))) (a := 0) (f := g.rf.length)
  revert h
  generalize fstBad (fun i => !(ok4a g i (g.rf.getD i (0, 0)) && ok4b g (g.rf.getD i (0, 0)))) 0 g.rf.length = r
  intro h
  dsimp only
  split <;> (try split) <;> omega
theorem bad5_two {g : Gr} (h1 : bad1 g = false) : bad5 g = -1 ∨ 0 ≤ bad5 g := by
  have hc : 0 ≤ g.cells := by simp [bad1] at h1; omega
  unfold bad5
  split
  · split
    · exact .inl rfl
    · exact .inr hc
  · exact fst_two
theorem bad6_two (g : Gr) : bad6 g = -1 ∨ 0 ≤ bad6 g := by
  unfold bad6
  exact fst_two
theorem chk_at {g : Gr} {q : Bool} {x : Int} {k : Nat} (hk : k < 9) (h : ∀ j, j < k → rl g q j = -1) (e : rl g q k = x) (hx : x ≠ -1) : chk g q = (((k : Nat) : Int) + 1, x) := by
  rw [chk_hit hk h (by rw [e]; exact hx), e]
theorem rl_up {g : Gr} {q : Bool} {k : Nat} (h : ∀ j, j < k → rl g q j = -1) (e : rl g q k = -1) : ∀ j, j < k + 1 → rl g q j = -1 := fun j hj => by
  by_cases hjk : j = k
  · rw [hjk]; exact e
  · exact h j (by omega)
theorem rl_two {g : Gr} {q : Bool} (h1 : bad1 g = false) (h2 : bad2 g q = -1) : ∀ j, j < 2 → rl g q j = -1 :=
  rl_up (rl_up (fun j h => by omega) (show rl g q 0 = -1 by unfold rl; rw [h1]; rfl)) (show rl g q 1 = -1 from h2)
theorem chk_dep {g : Gr} {q : Bool} {x : Int} {k : Nat} (hk : k < 3) (h : ∀ j, j < 6 + k → rl g q j = -1) (e : rl g q (6 + k) = x) (hx : x ≠ -1) : chk g q = (7 + ((k : Nat) : Int), x) := by
  rw [chk_at (by omega) h e hx]
  congr 1
  omega
theorem badD_no {evs : List Ev} {l : List (Int × Int)} {ks : List Int} (h : 0 < l.length) : badD evs false l ks = 0 := by
  show fstBad _ 0 l.length = ((0 : Nat) : Int)
  exact fstBad_hit (i := 0) (Nat.le_refl _) (by omega) (fun j h1 h2 => by omega) rfl
theorem badD_nil {evs : List Ev} {q : Bool} {l : List (Int × Int)} {ks : List Int} (h : ¬ 0 < l.length) : badD evs q l ks = -1 :=
  fstBad_none (fun j _ h2 => by omega)
theorem chk_two {g : Gr} {q : Bool} {x : Int} (h1 : bad1 g = false) (h : bad2 g q = x) (hx : x ≠ -1) : chk g q = (2, x) := by
  have e0 : rl g q 0 = -1 := by unfold rl; rw [h1]; rfl
  have e1 : rl g q 1 = x := by unfold rl; exact h
  rw [chk_hit (k := 1) (by omega) (fun j h => by obtain rfl : j = 0 := by omega
                                                 exact e0) (by rw [e1]; exact hx), e1]
  rfl
set_option linter.unusedSimpArgs false in
set_option maxRecDepth 100000 in
set_option maxHeartbeats 16000000 in
theorem r8Check_calls (V : GrV) (g : Gr) (q : Bool) (w : World) (h : GrR w V g) : Calls Tryz.prog 18 #[V.val g, .bool q] w fun r w' => r = .returned (.tuple #[.int .i64 (chk g q).1, .int .i64 (chk g q).2]) ∧ Below w.heap.size w w' := by
  generalize hr : chk g q = r
  obtain ⟨r1, r2⟩ := r
  have HR := hid_of hr
  obtain ⟨Ve, Vr, Vc, Vm, Va, Vd, Vt⟩ := V
  obtain ⟨pe, ce, ee, hp, _⟩ := h.ev
  obtain ⟨p5, k5, e5, _, hl5⟩ := parg_form h.addr
  obtain ⟨p6, k6, e6, _, hl6⟩ := parg_form h.dat
  obtain ⟨p7, k7, e7, _, hl7⟩ := parg_form h.ctrl
  dsimp only at ee e5 e6 e7
  subst ee
  subst e5
  subst e6
  subst e7
  have HP := hid_of hp
  have H := hid_of h
  have hB : Below w.heap.size w (w.alloc (.cells #[.int .i64 g.cells, .slice pe g.evs.length ce, Vr, Vc, Vm, .slice p5 g.addr.length k5, .slice p6 g.dat.length k6, .slice p7 g.ctrl.length k7] 27)) := (Below.refl _ _).alloc (Nat.le_refl _) _
  have hb := Blk.new w 27 #[.int .i64 g.cells, .slice pe g.evs.length ce, Vr, Vc, Vm, .slice p5 g.addr.length k5, .slice p6 g.dat.length k6, .slice p7 g.ctrl.length k7]
  unfold GrV.val
  dsimp only
  clear hr hp h
  go_enter Tryz.func18, Tryz.ntmps18
  go_upto_region 1 with fail
  have HB := hid_of hB
  have HG := hid_of hb
  generalize w.alloc (.cells #[.int .i64 g.cells, .slice pe g.evs.length ce, Vr, Vc, Vm, .slice p5 g.addr.length k5, .slice p6 g.dat.length k6, .slice p7 g.ctrl.length k7] 27) = W0 at *
  have c0 : W0.cell? ⟨w.heap.size, 0, none⟩ = some (.int .i64 g.cells) := hb.cell rfl
  have c1 : W0.cell? ⟨w.heap.size, 1, none⟩ = some (.slice pe g.evs.length ce) := hb.cell rfl
  clear hb hB
  by_cases b1 : g.cells < 0
  · obtain ⟨rfl, rfl⟩ := chk_is HR.out (chk_one (by unfold bad1; rw [decide_eq_true b1]; rfl))
    go_wp2_with fail
    go_ret2
    exact ⟨rfl, HB.out⟩
  by_cases b2 : 4096 < g.cells
  · obtain ⟨rfl, rfl⟩ := chk_is HR.out (chk_one (by unfold bad1; simp; omega))
    go_wp2_with fail
    go_ret2
    exact ⟨rfl, HB.out⟩
  by_cases b3 : ((g.evs.length : Nat) : Int) < g.cells
  · obtain ⟨rfl, rfl⟩ := chk_is HR.out (chk_one (by unfold bad1; simp; omega))
    go_wp2_with fail
    go_ret2
    exact ⟨rfl, HB.out⟩
  by_cases b4 : 256 < ((g.evs.length : Nat) : Int)
  · obtain ⟨rfl, rfl⟩ := chk_is HR.out (chk_one (by unfold bad1; simp; omega))
    go_wp2_with fail
    go_ret2
    exact ⟨rfl, HB.out⟩
  obtain ⟨nc, hn⟩ : ∃ n : Nat, g.cells = (n : Int) := ⟨g.cells.toNat, by omega⟩
  have h1 : bad1 g = false := by unfold bad1; simp; omega
  have hl256 : g.evs.length ≤ 256 := by omega
  have hnl : nc ≤ g.evs.length := by omega
  have H1 := hid_of h1
  have HN := hid_of hn
  obtain ⟨md, HMD⟩ : ∃ md : Int, Hid (md = if q then 11 else 1) := ⟨_, rfl⟩
  go_upto_if 35 with fail
  have hb2 := Blk.new W0 31 #[.int .i64 (-1), .int .i64 2, .int .i64 0, .int .u64 0, .int .i64 1]
  have hB2 : Below W0.heap.size W0 (W0.alloc (.cells #[.int .i64 (-1), .int .i64 2, .int .i64 0, .int .u64 0, .int .i64 1] 31)) := (Below.refl _ _).alloc (Nat.le_refl _) _
  have HX2 := hid_of hb2
  have HY2 := hid_of hB2
  have f4 := hb2.frozen 4
  have z4 := hb2.cell (j := 4) rfl
  clear hb2 hB2 c0 c1 h1 hn b1 b2 b3 b4
  generalize W0.alloc (.cells #[.int .i64 (-1), .int .i64 2, .int .i64 0, .int .u64 0, .int .i64 1] 31) = W1 at *
  go_cut [35] (fun v35 wx => Hid (v35 = v35) ∧ Hid (Blk wx W0.heap.size 31 #[.int .i64 (-1), .int .i64 2, .int .i64 0, .int .u64 0, .int .i64 md]) ∧ Hid (Below W0.heap.size W0 wx))
  case first =>
    cases q
    · obtain rfl : md = 1 := HMD.out
      go_wp2_with fail
      go_meet
      case rel => exact ⟨trivial, HX2.out, HY2.out⟩
    · obtain rfl : md = 11 := HMD.out
      go_wp2_with fail
      go_meet
      case rel => exact ⟨trivial, HX2.out.set 4 _, HY2.out.setCell (Nat.le_refl _) _⟩
  case rest =>
  obtain ⟨_, HXC, HYC⟩ := hcut
  generalize hwc : wc = W2 at *
  clear hwc z4 f4 HX2 HY2
  go_wp2_with fail
  go_loopg [7] nc (fun f v7 wr => ∃ c : Nat, v7 = .int .i64 ((c : Nat) : Int) ∧ c ≤ nc ∧ Hid (c + f = nc) ∧ Hid (∀ j, 0 ≤ j → j < c → @decide (g.ev j ≠ iniEv j q) (Ev.ndec _ _) = false) ∧ (∃ lv : Int, Hid (Blk wr W0.heap.size 31 #[.int .i64 (-1), .int .i64 2, .int .i64 lv, .int .u64 0, .int .i64 md])) ∧ Hid (Below W0.heap.size W0 wr))
  case atStart => exact ⟨0, rfl, Nat.zero_le _, Nat.zero_add _, (fun j h1 h2 => by omega), ⟨0, HXC⟩, HYC⟩
  case round =>
    obtain ⟨c, rfl, hcn, HKF, HALL, ⟨lv, HE⟩, HW⟩ := hrel
    generalize hwa : wr = wa at *
    clear hwa
    have HBW : Hid (Below w.heap.size w wa) := below_step HB.out HB.out.size HW.out
    have HGa := hid_of (HG.out.of_below HW.out)
    have c0 : wa.cell? ⟨w.heap.size, 0, none⟩ = some (.int .i64 ((nc : Nat) : Int)) := by rw [← HN.out]; exact HGa.out.cell rfl
    have C0 : (0 : Int) ≤ ((c : Nat) : Int) := by omega
    by_cases hlt : c < nc
    · have C1 : ((c : Nat) : Int) < ((nc : Nat) : Int) := by omega
      have C2 : ((c : Nat) : Int) < ((g.evs.length : Nat) : Int) := by omega
      have z2 : wa.cell? ⟨W0.heap.size, 2, none⟩ = some (.int .i64 lv) := HE.out.cell rfl
      have f2 := HE.out.frozen 2
      go_upto_region 10 with fail
      have HE2 := hid_of (HE.out.set 2 (.int .i64 ((c : Nat) : Int)))
      have HW2 : Hid (Below W0.heap.size W0 (wa.setCell ⟨W0.heap.size, 2, none⟩ (.int .i64 ((c : Nat) : Int)))) := HW.out.setCell (Nat.le_refl _) _
      clear z2 f2 c0
      generalize wa.setCell ⟨W0.heap.size, 2, none⟩ (.int .i64 ((c : Nat) : Int)) = wy at *
      have HBY : Hid (Below w.heap.size w wy) := below_step HB.out HB.out.size HW2.out
      obtain ⟨s, o, rfl, hat⟩ := HP.out (by omega)
      have hat' := hat.below HBY.out
      have he := Gr.ev_at (g := g) (i := c) (by omega)
      have x0 := hat'.c0 c _ he
      have x1 := hat'.c1 c _ he
      have x2 := hat'.c2 c _ he
      have x3 := hat'.c3 c _ he
      have x4 := hat'.c4 c _ he
      have c1 : wy.cell? ⟨w.heap.size, 1, none⟩ = some (.slice (some ⟨s, o, none⟩) g.evs.length ce) := (HG.out.of_below HW2.out).cell rfl
      have y0 : wy.cell? ⟨W0.heap.size, 0, none⟩ = some (.int .i64 (-1)) := HE2.out.cell rfl
      have y1 : wy.cell? ⟨W0.heap.size, 1, none⟩ = some (.int .i64 2) := HE2.out.cell rfl
      have y2 : wy.cell? ⟨W0.heap.size, 2, none⟩ = some (.int .i64 ((c : Nat) : Int)) := HE2.out.cell rfl
      have y3 : wy.cell? ⟨W0.heap.size, 3, none⟩ = some (.int .u64 0) := HE2.out.cell rfl
      have y4 : wy.cell? ⟨W0.heap.size, 4, none⟩ = some (.int .i64 md) := HE2.out.cell rfl
      have HI : Hid (g.ev c = iniEv c q ↔ (g.ev c).t = -1 ∧ (g.ev c).k = 2 ∧ (g.ev c).l = (c : Int) ∧ (g.ev c).v = 0 ∧ (g.ev c).m = md) := by rw [Hid, iniEv, ev_eta, HMD.out]
      clear he hat hat'
      generalize hge : g.ev c = ek at *
      have HGE := hid_of hge
      clear hge
      obtain ⟨et, ek', el, ev, em⟩ := ek
      dsimp only at x0 x1 x2 x3 x4 HI
      by_cases hq : et = -1 ∧ ek' = 2 ∧ el = (c : Int) ∧ ev = 0 ∧ em = md
      · have HQ := hid_of hq
        obtain ⟨rfl, rfl, rfl, rfl, rfl⟩ := hq
        go_quiet (fail)
        go_wp2_with fail
        go_roundg (nc - (c + 1))
        case measure => have := HKF.out; omega
        case rel =>
          refine ⟨c + 1, by go_num, by omega, by have := HKF.out; rw [Hid]; omega, fun j h1 h2 => ?_, ⟨_, HE2.out⟩, below_drewN HW2.out _⟩
          by_cases e : j = c
          · subst e
            rw [HGE.out]
            exact @decide_eq_false _ (Ev.ndec _ _) (fun h => h (HI.out.2 HQ.out))
          · exact HALL.out j h1 (by omega)
      · have H2E : Hid (bad2 g q = ((c : Nat) : Int)) := by
          rw [Hid, bad2, HN.out, Int.toNat_natCast]
          refine fstBad_hit (Nat.zero_le _) (by omega) HALL.out ?_
          rw [HGE.out]
          exact @decide_eq_true _ (Ev.ndec _ _) (fun e => hq (HI.out.1 e))
        obtain ⟨rfl, rfl⟩ := chk_is HR.out (chk_two H1.out H2E.out (by omega))
        have HQ := hid_of hq
        clear hq
        by_cases e1 : et = -1
        case neg =>
          go_quiet (fail)
          go_wp2_with fail
          go_ret2
          exact ⟨rfl, below_drewN HBY.out _⟩
        subst e1
        by_cases e2 : ek' = 2
        case neg =>
          go_quiet (fail)
          go_wp2_with fail
          go_ret2
          exact ⟨rfl, below_drewN HBY.out _⟩
        subst e2
        by_cases e3 : el = ((c : Nat) : Int)
        case neg =>
          go_quiet (fail)
          go_wp2_with fail
          go_ret2
          exact ⟨rfl, below_drewN HBY.out _⟩
        subst e3
        by_cases e4 : ev = 0
        case neg =>
          go_quiet (fail)
          go_wp2_with fail
          go_ret2
          exact ⟨rfl, below_drewN HBY.out _⟩
        subst e4
        by_cases e5 : em = md
        case neg =>
          go_quiet (fail)
          go_wp2_with fail
          go_ret2
          exact ⟨rfl, below_drewN HBY.out _⟩
        exact absurd ⟨rfl, rfl, rfl, rfl, e5⟩ HQ.out
    · obtain rfl : c = nc := by omega
      have H2 : Hid (bad2 g q = -1) := by
        rw [Hid, bad2, HN.out, Int.toNat_natCast]
        exact fstBad_none (fun j h1 h2 => HALL.out j h1 (by omega))
      have H2L := hid_of (rl_two H1.out H2.out)
      go_wp2_with fail
      clear c0
      go_loopg [8] (g.evs.length - c) (fun f v8 wr => ∃ k : Nat, v8 = .int .i64 ((k : Nat) : Int) ∧ c ≤ k ∧ k ≤ g.evs.length ∧ Hid (k + f = g.evs.length) ∧ Hid (∀ j, c ≤ j → j < k → (!okEv g.cells (g.ev j) q) = false) ∧ Hid (Below W0.heap.size W0 wr))
      case atStart => exact ⟨c, rfl, Nat.le_refl _, hnl, by rw [Hid]; omega, (fun j h1 h2 => by omega), HW.out⟩
      case round =>
        obtain ⟨k, rfl, hk0, hk, HKG, HALL3, HW3⟩ := hrel
        generalize hwb : wr = wb at *
        clear hwb
        have HBb : Hid (Below w.heap.size w wb) := below_step HB.out HB.out.size HW3.out
        have HGb := hid_of (HG.out.of_below HW3.out)
        have c1 : wb.cell? ⟨w.heap.size, 1, none⟩ = some (.slice pe g.evs.length ce) := HGb.out.cell rfl
        have K0 : (0 : Int) ≤ ((k : Nat) : Int) := by omega
        by_cases hlt2 : k < g.evs.length
        · have K1 : ((k : Nat) : Int) < ((g.evs.length : Nat) : Int) := by omega
          go_upto_region 15 with fail
          clear c1
          obtain ⟨s, o, rfl, hat⟩ := HP.out (by omega)
          have HAT := hid_of (hat.below HBb.out)
          have HC0 := hid_of (r8event_calls ⟨.slice (some ⟨s, o, none⟩) g.evs.length ce, Vr, Vc, Vm, .slice p5 g.addr.length k5, .slice p6 g.dat.length k6, .slice p7 g.ctrl.length k7⟩ g (g.ev k) q wb.drew)
          unfold GrV.val Ev.val at HC0
          dsimp only at HC0
          have HE3 := hid_of (Gr.ev_at hlt2)
          generalize hev : g.ev k = ek at *
          obtain ⟨et, ek', el, ev, em⟩ := ek
          have HZ : Hid (∀ W, Below wb.heap.size wb W → W.cell? ⟨w.heap.size, 0, none⟩ = some (.int .i64 g.cells) ∧ W.cell? ⟨w.heap.size, 1, none⟩ = some (.slice (some ⟨s, o, none⟩) g.evs.length ce) ∧ W.cell? ⟨w.heap.size, 2, none⟩ = some (Vr) ∧ W.cell? ⟨w.heap.size, 3, none⟩ = some (Vc) ∧ W.cell? ⟨w.heap.size, 4, none⟩ = some (Vm) ∧ W.cell? ⟨w.heap.size, 5, none⟩ = some (.slice p5 g.addr.length k5) ∧ W.cell? ⟨w.heap.size, 6, none⟩ = some (.slice p6 g.dat.length k6) ∧ W.cell? ⟨w.heap.size, 7, none⟩ = some (.slice p7 g.ctrl.length k7) ∧ W.cell? ⟨s, o + k * 5, none⟩ = some (.int .i64 et) ∧ W.cell? ⟨s, o + k * 5 + 1, none⟩ = some (.int .i64 ek') ∧ W.cell? ⟨s, o + k * 5 + 2, none⟩ = some (.int .i64 el) ∧ W.cell? ⟨s, o + k * 5 + 3, none⟩ = some (.int .u64 ev) ∧ W.cell? ⟨s, o + k * 5 + 4, none⟩ = some (.int .i64 em)) := fun W hW => ⟨(HGb.out.of_below hW).cell rfl, (HGb.out.of_below hW).cell rfl, (HGb.out.of_below hW).cell rfl, (HGb.out.of_below hW).cell rfl, (HGb.out.of_below hW).cell rfl, (HGb.out.of_below hW).cell rfl, (HGb.out.of_below hW).cell rfl, (HGb.out.of_below hW).cell rfl, (HAT.out.below hW).c0 k _ HE3.out, (HAT.out.below hW).c1 k _ HE3.out, (HAT.out.below hW).c2 k _ HE3.out, (HAT.out.below hW).c3 k _ HE3.out, (HAT.out.below hW).c4 k _ HE3.out⟩
          have HEV := hid_of hev
          clear hev hat
          generalize hgbn : w.heap.size = gb at *
          generalize hcl : g.cells = cl at *
          dsimp only at HC0
          cases hok : okEv cl ⟨et, ek', el, ev, em⟩ q
          · rw [hok] at HC0
            have HC := HC0
            have H3E : Hid (bad3 g q = ((k : Nat) : Int)) := by
              rw [Hid, bad3, hcl, HN.out, Int.toNat_natCast]
              refine fstBad_hit hk0 (by omega) (fun j h1 h2 => by have := HALL3.out j h1 h2; rwa [HN.out] at this) ?_
              rw [HEV.out, ← HN.out, hok]
              rfl
            obtain ⟨rfl, rfl⟩ := chk_is HR.out (chk_at (k := 2) (by omega) H2L.out (show rl g q 2 = _ from H3E.out) (by omega))
            clear HC0 hok
            refine wp_region_held_drew (S := (fun w' => w'.cell? ⟨gb, 0, none⟩ = some (.int .i64 cl) ∧ w'.cell? ⟨gb, 1, none⟩ = some (.slice (some ⟨s, o, none⟩) g.evs.length ce) ∧ w'.cell? ⟨gb, 2, none⟩ = some (Vr) ∧ w'.cell? ⟨gb, 3, none⟩ = some (Vc) ∧ w'.cell? ⟨gb, 4, none⟩ = some (Vm) ∧ w'.cell? ⟨gb, 5, none⟩ = some (.slice p5 g.addr.length k5) ∧ w'.cell? ⟨gb, 6, none⟩ = some (.slice p6 g.dat.length k6) ∧ w'.cell? ⟨gb, 7, none⟩ = some (.slice p7 g.ctrl.length k7) ∧ w'.cell? ⟨s, o + k * 5, none⟩ = some (.int .i64 et) ∧ w'.cell? ⟨s, o + k * 5 + 1, none⟩ = some (.int .i64 ek') ∧ w'.cell? ⟨s, o + k * 5 + 2, none⟩ = some (.int .i64 el) ∧ w'.cell? ⟨s, o + k * 5 + 3, none⟩ = some (.int .u64 ev) ∧ w'.cell? ⟨s, o + k * 5 + 4, none⟩ = some (.int .i64 em))) (by kernel_rfl) (HZ.out _ (Below.refl _ _).drew) (fun hHeld => ?_)
            refine tk 0 rfl ?_; simp only [zz]
            refine tk 1 rfl ?_; simp only [zz]
            refine tk 2 rfl ?_; simp only [zz]
            refine tk 3 rfl ?_; simp only [zz]
            refine tk 4 rfl ?_; simp only [zz]
            refine tk 5 rfl ?_; simp only [zz]
            refine tk 6 rfl ?_; simp only [zz]
            refine wpAnyH_ready (rs := [7]) (by kernel_rfl) (by simp) ?_
            refine AllReadyH.cons rfl (fun K hK => ?_) AllReadyH.nil
            simp only [z1, z2, z3]
            go_simp
            refine HC.out.mono ?_
            rintro e w5 ⟨rfl, hB5⟩
            have hX5 : Below wb.heap.size wb w5 := ((Below.refl wb.heap.size wb).drew).trans hB5
            refine hK.out _ _ (HZ.out w5 hX5) (fun hHeld => ?_)
            clear hK K
            try simp only [zz]
            refine tk 8 rfl ?_; simp only [zz]
            refine wpAnyH_done (by kernel_rfl) ?_ _
            go_wp2_with fail
            go_ret2
            exact ⟨rfl, by rw [hgbn]; exact HBb.out.trans (hX5.mono (by rw [← hgbn]; exact HBb.out.size))⟩
          · rw [hok] at HC0
            have HC := HC0
            have HOK := hid_of hok
            clear HC0 hok
            refine wp_region_held_drew (S := (fun w' => w'.cell? ⟨gb, 0, none⟩ = some (.int .i64 cl) ∧ w'.cell? ⟨gb, 1, none⟩ = some (.slice (some ⟨s, o, none⟩) g.evs.length ce) ∧ w'.cell? ⟨gb, 2, none⟩ = some (Vr) ∧ w'.cell? ⟨gb, 3, none⟩ = some (Vc) ∧ w'.cell? ⟨gb, 4, none⟩ = some (Vm) ∧ w'.cell? ⟨gb, 5, none⟩ = some (.slice p5 g.addr.length k5) ∧ w'.cell? ⟨gb, 6, none⟩ = some (.slice p6 g.dat.length k6) ∧ w'.cell? ⟨gb, 7, none⟩ = some (.slice p7 g.ctrl.length k7) ∧ w'.cell? ⟨s, o + k * 5, none⟩ = some (.int .i64 et) ∧ w'.cell? ⟨s, o + k * 5 + 1, none⟩ = some (.int .i64 ek') ∧ w'.cell? ⟨s, o + k * 5 + 2, none⟩ = some (.int .i64 el) ∧ w'.cell? ⟨s, o + k * 5 + 3, none⟩ = some (.int .u64 ev) ∧ w'.cell? ⟨s, o + k * 5 + 4, none⟩ = some (.int .i64 em))) (by kernel_rfl) (HZ.out _ (Below.refl _ _).drew) (fun hHeld => ?_)
            refine tk 0 rfl ?_; simp only [zz]
            refine tk 1 rfl ?_; simp only [zz]
            refine tk 2 rfl ?_; simp only [zz]
            refine tk 3 rfl ?_; simp only [zz]
            refine tk 4 rfl ?_; simp only [zz]
            refine tk 5 rfl ?_; simp only [zz]
            refine tk 6 rfl ?_; simp only [zz]
            refine wpAnyH_ready (rs := [7]) (by kernel_rfl) (by simp) ?_
            refine AllReadyH.cons rfl (fun K hK => ?_) AllReadyH.nil
            simp only [z1, z2, z3]
            go_simp
            refine HC.out.mono ?_
            rintro e w5 ⟨rfl, hB5⟩
            have hX5 : Below wb.heap.size wb w5 := ((Below.refl wb.heap.size wb).drew).trans hB5
            refine hK.out _ _ (HZ.out w5 hX5) (fun hHeld => ?_)
            clear hK K
            try simp only [zz]
            refine tk 8 rfl ?_; simp only [zz]
            refine wpAnyH_done (by kernel_rfl) ?_ _
            go_wp2_with fail
            go_roundg (g.evs.length - (k + 1))
            case measure => have := HKG.out; omega
            case rel =>
              refine ⟨k + 1, by go_num, by omega, by omega, by have := HKG.out; rw [Hid]; omega, fun j h1 h2 => ?_, HW3.out.trans (hX5.mono HW3.out.size)⟩
              by_cases e : j = k
              · subst e; rw [HEV.out, HOK.out]; rfl
              · exact HALL3.out j h1 (by omega)
        · obtain rfl : k = g.evs.length := by omega
          have H3 : Hid (bad3 g q = -1) := by
            rw [Hid, bad3, HN.out, Int.toNat_natCast]
            exact fstBad_none (fun j h1 h2 => by have := HALL3.out j h1 (by omega); rwa [HN.out] at this)
          have H3L := hid_of (rl_up H2L.out (show rl g q 2 = _ from H3.out))
          clear c1 K0
          have c0 : wb.cell? ⟨w.heap.size, 0, none⟩ = some (.int .i64 g.cells) := HGb.out.cell rfl
          have c1 : wb.cell? ⟨w.heap.size, 1, none⟩ = some (.slice pe g.evs.length ce) := HGb.out.cell rfl
          have c2 : wb.cell? ⟨w.heap.size, 2, none⟩ = some (Vr) := HGb.out.cell rfl
          have c3 : wb.cell? ⟨w.heap.size, 3, none⟩ = some (Vc) := HGb.out.cell rfl
          have c4 : wb.cell? ⟨w.heap.size, 4, none⟩ = some (Vm) := HGb.out.cell rfl
          have c5 : wb.cell? ⟨w.heap.size, 5, none⟩ = some (.slice p5 g.addr.length k5) := HGb.out.cell rfl
          have c6 : wb.cell? ⟨w.heap.size, 6, none⟩ = some (.slice p6 g.dat.length k6) := HGb.out.cell rfl
          have c7 : wb.cell? ⟨w.heap.size, 7, none⟩ = some (.slice p7 g.ctrl.length k7) := HGb.out.cell rfl
          have HD4 := hid_of (r8rf_calls ⟨.slice pe g.evs.length ce, Vr, Vc, Vm, .slice p5 g.addr.length k5, .slice p6 g.dat.length k6, .slice p7 g.ctrl.length k7⟩ g wb (H.out.below HBb.out) hl256)
          unfold GrV.val at HD4
          dsimp only at HD4
          obtain ⟨x4, hx4⟩ : ∃ x, bad4 g = x := ⟨_, rfl⟩
          have HX4 := hid_of hx4
          have T4 := bad4_two g
          rw [hx4] at HD4 T4
          clear hx4
          go_wp2_with fail
          refine HD4.out.mono ?_
          rintro e w4 ⟨rfl, hD4⟩
          clear c0 c1 c2 c3 c4 c5 c6 c7
          have HB4 : Hid (Below w.heap.size w w4) := below_step HBb.out HBb.out.size hD4
          have HV4 : Hid (Below W0.heap.size W0 w4) := below_step HW3.out HW3.out.size hD4
          have HG4 := hid_of (HG.out.of_below HV4.out)
          by_cases n4 : x4 = -1
          case neg =>
            have t4 : (0 : Int) ≤ x4 := T4.resolve_left n4
            obtain ⟨rfl, rfl⟩ := chk_is HR.out (chk_at (k := 3) (by omega) H3L.out (show rl g q 3 = _ from HX4.out) n4)
            clear T4 n4
            go_wp2_with fail
            go_ret2
            exact ⟨rfl, HB4.out⟩
          subst n4
          have H4L := hid_of (rl_up H3L.out (show rl g q 3 = _ from HX4.out))
          clear T4
          have c0 : w4.cell? ⟨w.heap.size, 0, none⟩ = some (.int .i64 g.cells) := HG4.out.cell rfl
          have c1 : w4.cell? ⟨w.heap.size, 1, none⟩ = some (.slice pe g.evs.length ce) := HG4.out.cell rfl
          have c2 : w4.cell? ⟨w.heap.size, 2, none⟩ = some (Vr) := HG4.out.cell rfl
          have c3 : w4.cell? ⟨w.heap.size, 3, none⟩ = some (Vc) := HG4.out.cell rfl
          have c4 : w4.cell? ⟨w.heap.size, 4, none⟩ = some (Vm) := HG4.out.cell rfl
          have c5 : w4.cell? ⟨w.heap.size, 5, none⟩ = some (.slice p5 g.addr.length k5) := HG4.out.cell rfl
          have c6 : w4.cell? ⟨w.heap.size, 6, none⟩ = some (.slice p6 g.dat.length k6) := HG4.out.cell rfl
          have c7 : w4.cell? ⟨w.heap.size, 7, none⟩ = some (.slice p7 g.ctrl.length k7) := HG4.out.cell rfl
          have HD5 := hid_of (r8co_calls ⟨.slice pe g.evs.length ce, Vr, Vc, Vm, .slice p5 g.addr.length k5, .slice p6 g.dat.length k6, .slice p7 g.ctrl.length k7⟩ g q w4 (H.out.below HB4.out) H1.out H2.out)
          unfold GrV.val at HD5
          dsimp only at HD5
          obtain ⟨x5, hx5⟩ : ∃ x, bad5 g = x := ⟨_, rfl⟩
          have HX5 := hid_of hx5
          have T5 := bad5_two H1.out
          rw [hx5] at HD5 T5
          clear hx5
          go_wp2_with fail
          refine HD5.out.mono ?_
          rintro e w5 ⟨rfl, hD5⟩
          clear c0 c1 c2 c3 c4 c5 c6 c7
          have HB5 : Hid (Below w.heap.size w w5) := below_step HB4.out HB4.out.size hD5
          have HV5 : Hid (Below W0.heap.size W0 w5) := below_step HV4.out HV4.out.size hD5
          have HG5 := hid_of (HG.out.of_below HV5.out)
          by_cases n5 : x5 = -1
          case neg =>
            have t5 : (0 : Int) ≤ x5 := T5.resolve_left n5
            obtain ⟨rfl, rfl⟩ := chk_is HR.out (chk_at (k := 4) (by omega) H4L.out (show rl g q 4 = _ from HX5.out) n5)
            clear T5 n5
            go_wp2_with fail
            go_ret2
            exact ⟨rfl, HB5.out⟩
          subst n5
          have H5L := hid_of (rl_up H4L.out (show rl g q 4 = _ from HX5.out))
          clear T5
          have c0 : w5.cell? ⟨w.heap.size, 0, none⟩ = some (.int .i64 g.cells) := HG5.out.cell rfl
          have c1 : w5.cell? ⟨w.heap.size, 1, none⟩ = some (.slice pe g.evs.length ce) := HG5.out.cell rfl
          have c2 : w5.cell? ⟨w.heap.size, 2, none⟩ = some (Vr) := HG5.out.cell rfl
          have c3 : w5.cell? ⟨w.heap.size, 3, none⟩ = some (Vc) := HG5.out.cell rfl
          have c4 : w5.cell? ⟨w.heap.size, 4, none⟩ = some (Vm) := HG5.out.cell rfl
          have c5 : w5.cell? ⟨w.heap.size, 5, none⟩ = some (.slice p5 g.addr.length k5) := HG5.out.cell rfl
          have c6 : w5.cell? ⟨w.heap.size, 6, none⟩ = some (.slice p6 g.dat.length k6) := HG5.out.cell rfl
          have c7 : w5.cell? ⟨w.heap.size, 7, none⟩ = some (.slice p7 g.ctrl.length k7) := HG5.out.cell rfl
          have HD6 := hid_of (r8rmw_calls ⟨.slice pe g.evs.length ce, Vr, Vc, Vm, .slice p5 g.addr.length k5, .slice p6 g.dat.length k6, .slice p7 g.ctrl.length k7⟩ g w5 (H.out.below HB5.out) hl256 (thr_ok H2.out H3.out))
          unfold GrV.val at HD6
          dsimp only at HD6
          obtain ⟨x6, hx6⟩ : ∃ x, bad6 g = x := ⟨_, rfl⟩
          have HX6 := hid_of hx6
          have T6 := bad6_two g
          rw [hx6] at HD6 T6
          clear hx6
          go_wp2_with fail
          refine HD6.out.mono ?_
          rintro e w6 ⟨rfl, hD6⟩
          clear c0 c1 c2 c3 c4 c5 c6 c7
          have HB6 : Hid (Below w.heap.size w w6) := below_step HB5.out HB5.out.size hD6
          have HV6 : Hid (Below W0.heap.size W0 w6) := below_step HV5.out HV5.out.size hD6
          have HG6 := hid_of (HG.out.of_below HV6.out)
          by_cases n6 : x6 = -1
          case neg =>
            have t6 : (0 : Int) ≤ x6 := T6.resolve_left n6
            obtain ⟨rfl, rfl⟩ := chk_is HR.out (chk_at (k := 5) (by omega) H5L.out (show rl g q 5 = _ from HX6.out) n6)
            clear T6 n6
            go_wp2_with fail
            go_ret2
            exact ⟨rfl, HB6.out⟩
          subst n6
          have H6L := hid_of (rl_up H5L.out (show rl g q 5 = _ from HX6.out))
          clear T6
          have c5 : w6.cell? ⟨w.heap.size, 5, none⟩ = some (.slice p5 g.addr.length k5) := HG6.out.cell rfl
          have c6 : w6.cell? ⟨w.heap.size, 6, none⟩ = some (.slice p6 g.dat.length k6) := HG6.out.cell rfl
          have c7 : w6.cell? ⟨w.heap.size, 7, none⟩ = some (.slice p7 g.ctrl.length k7) := HG6.out.cell rfl
          go_upto_region 28 with fail
          have hbs := Blk.new w6 24 #[.slice p5 g.addr.length k5, .slice p6 g.dat.length k6, .slice p7 g.ctrl.length k7]
          have hBs : Below w6.heap.size w6 (w6.alloc (.cells #[.slice p5 g.addr.length k5, .slice p6 g.dat.length k6, .slice p7 g.ctrl.length k7] 24)) := (Below.refl _ _).alloc (Nat.le_refl _) _
          have HS := hid_of hbs
          have HV7 : Hid (Below W0.heap.size W0 (w6.alloc (.cells #[.slice p5 g.addr.length k5, .slice p6 g.dat.length k6, .slice p7 g.ctrl.length k7] 24))) := below_step HV6.out HV6.out.size hBs
          have HB7 : Hid (Below w.heap.size w (w6.alloc (.cells #[.slice p5 g.addr.length k5, .slice p6 g.dat.length k6, .slice p7 g.ctrl.length k7] 24))) := below_step HB6.out HB6.out.size hBs
          clear hbs hBs c5 c6 c7 hD4 hD5 hD6
          generalize w6.alloc (.cells #[.slice p5 g.addr.length k5, .slice p6 g.dat.length k6, .slice p7 g.ctrl.length k7] 24) = W7 at *
          generalize w6.heap.size = bs at *
          go_loopg [11] 3 (fun f v11 wr => ∃ k : Nat, v11 = .int .i64 ((k : Nat) : Int) ∧ k ≤ 3 ∧ Hid (k + f = 3) ∧ Hid (∀ j, j < 6 + k → rl g q j = -1) ∧ Hid (Below W7.heap.size W7 wr))
          case atStart => exact ⟨0, rfl, by omega, rfl, H6L.out, Below.refl _ _⟩
          case round =>
            obtain ⟨k, rfl, hk3, HKH, HRL, HW8⟩ := hrel
            clear HBb HGb HW3
            generalize hwb2 : wr = wb at *
            clear hwb2
            have HBb : Hid (Below w.heap.size w wb) := below_step HB7.out HB7.out.size HW8.out
            have HGb := hid_of (HG.out.of_below (below_step HV7.out HV7.out.size HW8.out))
            have HSb := hid_of (HS.out.of_below HW8.out)
            have K0 : (0 : Int) ≤ ((k : Nat) : Int) := by omega
            by_cases hlt3 : k < 3
            · have K1 : ((k : Nat) : Int) < 3 := by omega
              obtain ⟨pk, lk, ck, ks, hck, hpk, hwk, hrk, hlk⟩ : ∃ (pk : Option Addr) (lk : List (Int × Int)) (ck : Nat) (ks : List Int), (#[.slice p5 g.addr.length k5, .slice p6 g.dat.length k6, .slice p7 g.ctrl.length k7] : Array Value)[k]? = some (.slice pk lk.length ck) ∧ PArg w (.slice pk lk.length ck) lk ∧ WhKs (7 + ((k : Nat) : Int)) ks ∧ rl g q (6 + k) = badD g.evs q lk ks ∧ lk.length ≤ 9223372036854775807 := by
                obtain rfl | rfl | rfl : k = 0 ∨ k = 1 ∨ k = 2 := by omega
                · exact ⟨p5, g.addr, k5, [1, 2], rfl, H.out.addr, .inl ⟨rfl, rfl⟩, rfl, hl5⟩
                · exact ⟨p6, g.dat, k6, [2], rfl, H.out.dat, .inr (.inl ⟨rfl, rfl⟩), rfl, hl6⟩
                · exact ⟨p7, g.ctrl, k7, [1, 2, 3], rfl, H.out.ctrl, .inr (.inr ⟨rfl, rfl⟩), rfl, hl7⟩
              have HRK := hid_of hrk
              have HC := hid_of (r8deps_calls ⟨.slice pe g.evs.length ce, Vr, Vc, Vm, .slice p5 g.addr.length k5, .slice p6 g.dat.length k6, .slice p7 g.ctrl.length k7⟩ g (.slice pk lk.length ck) lk (7 + ((k : Nat) : Int)) ks wb.drew (H.out.below HBb.out.drew) (hpk.below HBb.out.drew) hl256 (thr_ok H2.out H3.out) (knd_ok H2.out H3.out) hwk)
              unfold GrV.val at HC
              dsimp only at HC
              obtain ⟨xd, hxd⟩ : ∃ x, badD g.evs true lk ks = x := ⟨_, rfl⟩
              have HXD := hid_of hxd
              have TD : Hid (xd = -1 ∨ 0 ≤ xd) := by rw [Hid, ← hxd]; exact fst_two
              rw [hxd] at HC
              have HZ : Hid (∀ W, Below wb.heap.size wb W → W.cell? ⟨w.heap.size, 0, none⟩ = some (.int .i64 g.cells) ∧ W.cell? ⟨w.heap.size, 1, none⟩ = some (.slice pe g.evs.length ce) ∧ W.cell? ⟨w.heap.size, 2, none⟩ = some (Vr) ∧ W.cell? ⟨w.heap.size, 3, none⟩ = some (Vc) ∧ W.cell? ⟨w.heap.size, 4, none⟩ = some (Vm) ∧ W.cell? ⟨w.heap.size, 5, none⟩ = some (.slice p5 g.addr.length k5) ∧ W.cell? ⟨w.heap.size, 6, none⟩ = some (.slice p6 g.dat.length k6) ∧ W.cell? ⟨w.heap.size, 7, none⟩ = some (.slice p7 g.ctrl.length k7) ∧ W.cell? ⟨bs, k, none⟩ = some (.slice pk lk.length ck)) := fun W hW => ⟨(HGb.out.of_below hW).cell rfl, (HGb.out.of_below hW).cell rfl, (HGb.out.of_below hW).cell rfl, (HGb.out.of_below hW).cell rfl, (HGb.out.of_below hW).cell rfl, (HGb.out.of_below hW).cell rfl, (HGb.out.of_below hW).cell rfl, (HGb.out.of_below hW).cell rfl, (HSb.out.of_below hW).cell hck⟩
              have W7k : IntKind.i64.wrap (7 + ((k : Nat) : Int)) = 7 + ((k : Nat) : Int) := by
                have := wrap_small' (j := 7 + k) (by omega)
                rwa [Int.natCast_add] at this
              clear hxd hrk hwk hpk hck
              go_upto_region 30 with fail
              generalize hgbn : w.heap.size = gb at *
              generalize hcl : g.cells = cl at *
              refine wp_region_held_drew (S := (fun w' => w'.cell? ⟨gb, 0, none⟩ = some (.int .i64 cl) ∧ w'.cell? ⟨gb, 1, none⟩ = some (.slice pe g.evs.length ce) ∧ w'.cell? ⟨gb, 2, none⟩ = some (Vr) ∧ w'.cell? ⟨gb, 3, none⟩ = some (Vc) ∧ w'.cell? ⟨gb, 4, none⟩ = some (Vm) ∧ w'.cell? ⟨gb, 5, none⟩ = some (.slice p5 g.addr.length k5) ∧ w'.cell? ⟨gb, 6, none⟩ = some (.slice p6 g.dat.length k6) ∧ w'.cell? ⟨gb, 7, none⟩ = some (.slice p7 g.ctrl.length k7) ∧ w'.cell? ⟨bs, k, none⟩ = some (.slice pk lk.length ck))) (by kernel_rfl) (HZ.out _ (Below.refl _ _).drew) (fun hHeld => ?_)
              refine tk 0 rfl ?_; simp only [zz]
              refine tk 1 rfl ?_; simp only [zz]
              refine tk 2 rfl ?_; simp only [zz]
              refine tk 3 rfl ?_; simp only [zz]
              refine tk 4 rfl ?_; simp only [zz]
              refine tk 5 rfl ?_; simp only [zz]
              refine tk 6 rfl ?_; simp only [zz]
              refine wpAnyH_ready (rs := [7]) (by kernel_rfl) (by simp) ?_
              refine AllReadyH.cons rfl (fun K hK => ?_) AllReadyH.nil
              simp only [z1, z2, z3]
              go_simp
              refine HC.out.mono ?_
              rintro e w5 ⟨rfl, hB5⟩
              have hX5 : Below wb.heap.size wb w5 := ((Below.refl wb.heap.size wb).drew).trans hB5
              refine hK.out _ _ (HZ.out w5 hX5) (fun hHeld => ?_)
              clear hK K
              try simp only [zz]
              refine tk 8 rfl ?_; simp only [zz]
              refine wpAnyH_done (by kernel_rfl) ?_ _
              have HW9 : Hid (Below W7.heap.size W7 w5) := HW8.out.trans (hX5.mono HW8.out.size)
              have HBX : Hid (Below gb w w5) := HBb.out.trans (hX5.mono (by rw [← hgbn]; exact HBb.out.size))
              have y9 : w5.cell? ⟨bs, k, none⟩ = some (.slice pk lk.length ck) := (HZ.out w5 hX5).2.2.2.2.2.2.2.2
              clear hHeld
              cases q
              · by_cases l0 : 0 < lk.length
                · have L1 : (0 : Int) < ((lk.length : Nat) : Int) := by omega
                  obtain ⟨rfl, rfl⟩ := chk_is HR.out (chk_dep hlt3 HRL.out (HRK.out.trans (badD_no l0)) (by omega))
                  go_wp2_with fail
                  go_ret2
                  exact ⟨rfl, by first | exact HBX.out | (rw [hgbn]; exact HBX.out)⟩
                · have L1 : ¬ ((0 : Int) < ((lk.length : Nat) : Int)) := by omega
                  obtain rfl : xd = -1 := HXD.out.symm.trans (badD_nil l0)
                  have HRL2 := hid_of (rl_up HRL.out (HRK.out.trans (badD_nil l0)))
                  go_wp2_with fail
                  go_roundg (3 - (k + 1))
                  case measure => have := HKH.out; omega
                  case rel => exact ⟨k + 1, by go_num, by omega, by have := HKH.out; rw [Hid]; omega, HRL2.out, HW9.out⟩
              · by_cases nd : xd = -1
                · subst nd
                  have HRL2 := hid_of (rl_up HRL.out (HRK.out.trans HXD.out))
                  go_wp2_with fail
                  go_roundg (3 - (k + 1))
                  case measure => have := HKH.out; omega
                  case rel => exact ⟨k + 1, by go_num, by omega, by have := HKH.out; rw [Hid]; omega, HRL2.out, HW9.out⟩
                · have td : (0 : Int) ≤ xd := TD.out.resolve_left nd
                  obtain ⟨rfl, rfl⟩ := chk_is HR.out (chk_dep hlt3 HRL.out (HRK.out.trans HXD.out) nd)
                  clear nd
                  go_wp2_with fail
                  go_ret2
                  exact ⟨rfl, by first | exact HBX.out | (rw [hgbn]; exact HBX.out)⟩
            · obtain rfl : k = 3 := by omega
              obtain ⟨rfl, rfl⟩ := chk_is HR.out (chk_none HRL.out)
              go_wp2_with fail
              go_ret2
              exact ⟨rfl, HBb.out⟩
end Go.Proofs.YtjhhimjnoljojaaGreatDoor
