/- What OrderParts wants besides: lists that are written over and grown, each within its own block. -/
import Derived.Test.YtmmgdeoballhpaaDoorJ20
import Derived.Test.YtmmgdeoballhpaaDoorOGlue1
namespace Go.Proofs.YtmmgdeoballhpaaDoor
open Go.RowKit Go.Shelf Sx

/-- append onto a slice of one's own: the elder slice holds what it held. -/
theorem run_append_keeps {P : Program} (w : World) (base : Nat) (t ty e : TypeId) (i : TypeInfo) (z : Value) (size bytes : Nat) (ht : P.underlying t = some (.slice e)) (hi : P.info? e = some i) (hz : i.zero = some z)
    (hsize : i.size = size) (hby : i.bytes = bytes) (hzs : z.cells.size = size) (hsz : 0 < size)
    (v : Value) (n : Nat) (xs : List Value) (hown : w.ownsRow base e size v n xs)
    (a : Addr) (m c : Nat) (news : List Value) (hl : news.length = m * size) (hnews : ∀ j u, news[j]? = some u → w.cell? (a.add j) = some u) (h1 : ∀ u ∈ news, u.oneCell' = true)
    (h63 : n + m ≤ maxLen) (hbytes : (n + m) * bytes ≤ 140737488355328) (hbase : base ≤ w.heap.size) :
    ∃ v' w', (Builtin.append_ #[t, t] ty #[v, .slice (some a) m c]).run P w = .ok v' w' ∧ w'.ownsRow base e size v' (n + m) (xs ++ news) ∧ w'.ownsRow base e size v n xs ∧ w.grownBy w' v.ownBlock ∧ (v'.ownBlock = v.ownBlock ∨ v'.ownBlock = some w.heap.size) := by
  obtain ⟨v', w', hr, h2, h3, _, h5⟩ := run_append_own_at (P := P) w base t ty e i z size bytes ht hi hz hsize hby hzs hsz v n xs hown a m c news hl hnews h1 h63 hbytes hbase
  refine ⟨v', w', hr, h2, ?_, h3, h5⟩
  subst hsize
  subst hby
  have hsmall : n + m ≤ 9223372036854775807 := by simp only [maxLen] at h63; omega
  rcases hown.2 with ⟨rfl, rfl⟩ | ⟨g, cap, cur, rfl, hbg, hg, hnc, hcm, hcs, htake⟩
  · exact ⟨hown.1, .inl ⟨rfl, rfl⟩⟩
  · by_cases hroom : n + m ≤ cap
    · have hfit : n * i.size + news.length ≤ cur.size := by rw [hl, hcs, ← Nat.add_mul]; exact Nat.mul_le_mul_right _ hroom
      have hr2 := run_append_room (P := P) w t ty e i ht hi g n cap cur hg a m c news hl hnews h1 hroom hfit
      rw [hr] at hr2
      injection hr2 with e1 _
      subst e1
      rcases h2.2 with ⟨e2, _⟩ | ⟨g', cap', cur', e2, _, hg', _, _, hcs', ht'⟩
      · cases e2
      · injection e2 with e2 _ e3
        injection e2 with e2
        injection e2 with e2
        subst e2
        subst e3
        refine ⟨hown.1, .inr ⟨g, cap, cur', rfl, hbg, hg', hnc, hcm, hcs', ?_⟩⟩
        have hx := hown.1
        have : (cur'.toList.take ((n + m) * i.size)).take (n * i.size) = (xs ++ news).take (n * i.size) := by rw [ht']
        rw [List.take_take, Nat.min_eq_left (Nat.mul_le_mul_right _ (by omega)), ← hx, List.take_left] at this
        rw [← hx]
        exact this
    · have holds : ∀ j u, xs[j]? = some u → w.cell? ((⟨g, 0, none⟩ : Addr).add j) = some u := hown.cells (g := g) rfl
      have hr2 := run_append_grow (P := P) w t ty e i z ht hi hz ⟨g, 0, none⟩ n cap xs hown.1 holds a m c news hl hnews (by omega) (by omega) (growslice_fits (by omega) hbytes)
      rw [hr] at hr2
      injection hr2 with _ e2
      subst e2
      refine owns_keep hown (fun k hk => ?_)
      simp [Value.ownBlock] at hk
      subst hk
      exact Below.heap_alloc w.drew _ g (Array.getElem?_eq_some_iff.1 hg).1
theorem wpList_append_keeps {P : Program} (w : World) {ops : Array Oper} {rest : List Oper} {o : Oper} {a : Act} {Q : Exit → Act → World → Prop} (hgd : o.guard = none) (s x : Operand) (t : TypeId)
    (ho : o.op = .call { callee := .builtin .append, args := #[s, x], argTypes := #[t, t] })
    (base : Nat) (e : TypeId) (i : TypeInfo) (z : Value) (size bytes : Nat) (ht : P.underlying t = some (.slice e)) (hi : P.info? e = some i) (hz : i.zero = some z)
    (hsize : i.size = size) (hby : i.bytes = bytes) (hzs : z.cells.size = size) (hsz : 0 < size)
    (v : Value) (n : Nat) (xs : List Value) (hs : a.eval s = v) (hown : w.ownsRow base e size v n xs)
    (ad : Addr) (m c : Nat) (news : List Value) (hx : a.eval x = .slice (some ad) m c) (hl : news.length = m * size) (hnews : ∀ j u, news[j]? = some u → w.cell? (ad.add j) = some u) (h1 : ∀ u ∈ news, u.oneCell' = true)
    (h63 : n + m ≤ maxLen) (hbytes : (n + m) * bytes ≤ 140737488355328) (hbase : base ≤ w.heap.size)
    (h : ∀ v' w', w'.ownsRow base e size v' (n + m) (xs ++ news) → w'.ownsRow base e size v n xs → w.grownBy w' v.ownBlock → (v'.ownBlock = v.ownBlock ∨ v'.ownBlock = some w.heap.size) → wpList P ops Q rest (a.put o.dst v') w') :
    wpList P ops Q (o :: rest) a w := by
  refine wpList_plain hgd fun K hK => ?_
  obtain ⟨v', w', hr, h2, h3, h4, h5⟩ := run_append_keeps (P := P) w base t o.type e i z size bytes ht hi hz hsize hby hzs hsz v n xs hown ad m c news hl hnews h1 h63 hbytes hbase
  unfold Oper.wp execOp
  simp only [ho, resolve, invoke, builtin, Sem.run_bind, Sem.run_pure, Result.andThen_ok, List.map_toArray, List.map_cons, List.map_nil, hs, hx, hr]
  exact hK _ _ (h v' w' h2 h3 h4 h5)
/-- All but the blocks from lo to hi is as it was. -/
structure Fr (lo hi : Nat) (W W' : World) : Prop where
  os : W'.os = W.os
  tape : W'.tape = W.tape
  output : W'.output = W.output
  size : W.heap.size ≤ W'.heap.size
  block : ∀ k, k < W.heap.size → (k < lo ∨ hi ≤ k) → W'.heap[k]? = W.heap[k]?
theorem Fr.refl (lo hi : Nat) (W : World) : Fr lo hi W W := ⟨rfl, rfl, rfl, Nat.le_refl _, fun _ _ _ => rfl⟩
theorem Fr.below {lo hi : Nat} {W W' : World} (h : Fr lo hi W W') (hl : lo ≤ W.heap.size) : Below lo W W' := ⟨h.os, h.tape, h.output, h.size, fun k hk => h.block k (by omega) (.inl hk)⟩
theorem Fr.set {lo hi : Nat} {W W' : World} (h : Fr lo hi W W') {g : Nat} (hg : (lo ≤ g ∧ g < hi) ∨ W.heap.size ≤ g) (j : Nat) (v : Value) : Fr lo hi W (W'.setCell ⟨g, j, none⟩ v) :=
  ⟨h.os, h.tape, h.output, by simpa [World.setCell] using h.size, fun k hk hk2 => (Below.heap_setCell _ _ _ _ (by show k ≠ g; omega)).trans (h.block k hk hk2)⟩
theorem Fr.grown {lo hi : Nat} {W W' W'' : World} {o : Obj} {row : Option Nat} (h : Fr lo hi W W') (hg : (W'.alloc o).grownBy W'' row) (hr : ∀ g, row = some g → lo ≤ g ∧ g < hi) : Fr lo hi W W'' := by
  refine ⟨hg.os.trans h.os, hg.tape.trans h.tape, hg.output.trans h.output, Nat.le_trans h.size (Nat.le_trans (by simp) hg.size), fun k hk hk2 => ?_⟩
  have h1 := h.size
  rw [hg.block k (by simp; omega) (fun e => by have := hr k e.symm; omega), Below.heap_alloc _ _ _ (by omega)]
  exact h.block k hk hk2
theorem ClR.frame {lo hi base : Nat} {W W' : World} {v : Value} {vs : List Value} {ls : List (List Int)} (h : ClR W base v vs ls) (hf : Fr lo hi W W') (hb : hi ≤ base) : ClR W' base v vs ls :=
  ⟨owns_keep h.own (fun g hg => hf.block g (h.own.lt g hg).2 (.inr (Nat.le_trans hb (h.own.lt g hg).1))), h.rows.keep (fun _ _ g hx hg => hf.block g (h.rows.lt hx hg).2 (.inr (Nat.le_trans hb (h.rows.lt hx hg).1)))⟩
theorem set_same {vs : List Value} {k : Nat} {x : Value} (h : vs[k]? = some x) : vs.set k x = vs := by
  apply List.ext_getElem?
  intro i
  rw [List.getElem?_set]
  by_cases e : k = i
  · subst e
    rw [if_pos rfl, if_pos (List.getElem?_eq_some_iff.1 h).1, h]
  · rw [if_neg e]
theorem encJ_set (l : List Int) (j : Nat) (u : Int) : (encJ l).set j (.int .i64 u) = encJ (l.set j u) := by simp [encJ, List.map_set]
theorem ClR.store {W : World} {base k g m cap : Nat} {v : Value} {vs : List Value} {ls : List (List Int)} {l : List Int} (h : ClR W base v vs ls) (hx : vs[k]? = some (.slice (some ⟨g, 0, none⟩) m cap)) (hl : ls[k]? = some l) (j : Nat) (u : Int) : ClR (W.setCell ⟨g, j, none⟩ (.int .i64 u)) base v vs (ls.set k (l.set j u)) := by
  have ho := h.rows.row k _ l hx hl
  have hm : m = l.length := by
    rcases ho.2 with ⟨e, _⟩ | ⟨g', c', cur, e, _⟩
    · cases e
    · injection e
  subst hm
  have hne : v.ownBlock ≠ some g := h.ne hx rfl
  refine ⟨owns_keep h.own (fun q hq => Below.heap_setCell _ _ _ _ (fun e => hne (by have e : q = g := e; rw [← e]; exact hq))), ?_⟩
  have := h.rows.swap (W' := W.setCell ⟨g, j, none⟩ (.int .i64 u)) (l' := l.set j u) hx (x' := .slice (some ⟨g, 0, none⟩) l.length cap) (by
    rw [List.length_set, ← encJ_set]
    exact (ho.stored j (.int .i64 u)).1) (.inl rfl) (fun q hq _ hne2 => Below.heap_setCell _ _ _ _ (fun e => hne2 (by have e : q = g := e; rw [e]; rfl)))
  rw [set_same hx] at this
  exact this
theorem ClR.after {W W5 : World} {base k : Nat} {v x : Value} {vs : List Value} {ls : List (List Int)} {l : List Int} {o : Obj} (h : ClR W base v vs ls) (hx : vs[k]? = some x) (hl : ls[k]? = some l) (hg : (W.alloc o).grownBy W5 x.ownBlock) (hk : W5.ownsRow base 3 1 x l.length (encJ l)) : ClR W5 base v vs ls := by
  refine ⟨owns_keep h.own (fun q hq => ?_), ?_⟩
  · have := (h.own.lt q hq).2
    rw [hg.block q (by simp; omega) (fun e => h.ne hx e.symm hq), Below.heap_alloc _ _ _ this]
  · have := h.rows.swap (W' := W5) (l' := l) hx (x' := x) hk (.inl rfl) (fun q hq _ hne2 => by rw [hg.block q (by simp; omega) hne2, Below.heap_alloc _ _ _ hq])
    rw [set_same hx] at this
    have e : ls.set k l = ls := by
      apply List.ext_getElem?
      intro i
      rw [List.getElem?_set]
      by_cases e : k = i
      · subst e
        rw [if_pos rfl, if_pos (List.getElem?_eq_some_iff.1 hl).1, hl]
      · rw [if_neg e]
    rw [e] at this
    exact this
/-- A store behind a list's end, or in a block that none of them has. -/
theorem ClR.beyond {W : World} {base k g j : Nat} {v x : Value} {vs : List Value} {ls : List (List Int)} {l : List Int} {u : Value} (h : ClR W base v vs ls) (hx : vs[k]? = some x) (hl : ls[k]? = some l) (hg : (x.ownBlock = some g ∧ l.length ≤ j) ∨ ((∀ (i : Nat) (y : Value), vs[i]? = some y → y.ownBlock ≠ some g) ∧ v.ownBlock ≠ some g)) : ClR (W.setCell ⟨g, j, none⟩ u) base v vs ls := by
  have hvg : v.ownBlock ≠ some g := by
    rcases hg with ⟨h1, _⟩ | ⟨_, h2⟩
    · exact h.ne hx h1
    · exact h2
  have far : ∀ q, q ≠ g → (W.setCell ⟨g, j, none⟩ u).heap[q]? = W.heap[q]? := fun q hq => Below.heap_setCell _ _ _ _ hq
  refine ⟨owns_keep h.own (fun q hq => far q (fun e => hvg (by rw [← e]; exact hq))), ?_⟩
  rcases hg with ⟨h1, h2⟩ | ⟨h1, _⟩
  · have ho := h.rows.row k x l hx hl
    have ho2 : (W.setCell ⟨g, j, none⟩ u).ownsRow base 3 1 x l.length (encJ l) := by
      rcases ho.2 with ⟨e, _⟩ | ⟨g', c', cur, e, _⟩
      · subst e; cases h1
      · subst e
        simp [Value.ownBlock] at h1
        subst h1
        have := (ho.stored j u).1
        rw [List.set_eq_of_length_le (by simp [encJ]; omega)] at this
        exact this
    exact ⟨h.rows.len, fun i y l' hy hl' => by
      by_cases e : k = i
      · subst e
        rw [hx] at hy
        rw [hl] at hl'
        cases hy; cases hl'
        exact ho2
      · exact owns_keep (h.rows.row i y l' hy hl') (fun q hq => far q (fun e2 => e (h.rows.apart k i x y g hx hy h1 (by rw [← e2]; exact hq)))), h.rows.apart⟩
  · exact h.rows.keep (fun i y q hy hq => far q (fun e => h1 i y hy (by rw [← e]; exact hq)))
/-- A list's mark, and the lists that are marked. -/
def mkL (i : Nat) (l : List Int) : List Int := List.replicate l.length (-1 - (i : Int))
def mrkK (ls : List (List Int)) (k : Nat) : List (List Int) := ls.mapIdx (fun i l => if i < k then mkL i l else l)
theorem mrkK_zero (ls : List (List Int)) : mrkK ls 0 = ls := by
  unfold mrkK
  apply List.ext_getElem?
  intro i
  rw [List.getElem?_mapIdx]
  cases ls[i]? <;> simp
theorem mrkK_at {ls : List (List Int)} {k i : Nat} {l : List Int} (h : ls[i]? = some l) : (mrkK ls k)[i]? = some (if i < k then mkL i l else l) := by
  unfold mrkK
  rw [List.getElem?_mapIdx, h]
  rfl
theorem mrkK_length (ls : List (List Int)) (k : Nat) : (mrkK ls k).length = ls.length := by simp [mrkK]
theorem mrkK_succ {ls : List (List Int)} {k : Nat} {l : List Int} (h : ls[k]? = some l) : (mrkK ls k).set k (mkL k l) = mrkK ls (k + 1) := by
  apply List.ext_getElem?
  intro i
  rw [List.getElem?_set]
  by_cases e : k = i
  · subst e
    rw [if_pos rfl, if_pos (by rw [mrkK_length]; exact (List.getElem?_eq_some_iff.1 h).1), mrkK_at h, if_pos (by omega)]
  · rw [if_neg e]
    unfold mrkK
    rw [List.getElem?_mapIdx, List.getElem?_mapIdx]
    cases ls[i]? with
    | none => rfl
    | some l' =>
      simp only [Option.map_some]
      congr 1
      have : i < k ↔ i < k + 1 := by omega
      simp only [this]
def midL (k j : Nat) (l : List Int) : List Int := List.replicate j (-1 - (k : Int)) ++ l.drop j
theorem midL_zero (k : Nat) (l : List Int) : midL k 0 l = l := by simp [midL]
theorem midL_all (k : Nat) (l : List Int) : midL k l.length l = mkL k l := by simp [midL, mkL]
theorem midL_length {k j : Nat} {l : List Int} (h : j ≤ l.length) : (midL k j l).length = l.length := by simp [midL]; omega
theorem midL_set {k j : Nat} {l : List Int} (h : j < l.length) : (midL k j l).set j (-1 - (k : Int)) = midL k (j + 1) l := by
  unfold midL
  rw [List.set_append_right _ _ (by simp), List.length_replicate, Nat.sub_self, List.drop_eq_getElem_cons h, List.set_cons_zero, List.replicate_succ']
  simp
theorem mkL_at {k j : Nat} {l : List Int} (h : j < l.length) : (mkL k l)[j]? = some (-1 - (k : Int)) := by simp [mkL, h]
theorem encPs_PI (l : List (Nat × Nat)) : encPs l = encPI (l.map (fun x => (((x.1 : Nat) : Int), ((x.2 : Nat) : Int)))) := by
  unfold encPs encPI
  rw [List.flatMap_map]
theorem owns_parg2 {w : World} {base : Nat} {v : Value} {l : List (Nat × Nat)} (h : w.ownsRow base 37 2 v l.length (encPs l)) (hl : l.length * 16 ≤ 140737488355328) : PArg w v (l.map (fun x => (((x.1 : Nat) : Int), ((x.2 : Nat) : Int)))) := by
  refine owns_parg (base := base) ?_ (by simpa using hl)
  rw [List.length_map, ← encPs_PI]
  exact h
theorem owns_last {W : World} {base n : Nat} {e : TypeId} {v a b c : Value} {xs : List Value} (h : W.ownsRow base e 1 v (n + 3) (xs ++ [a, b, c])) (hx : xs.length = n) : ∃ g cap, v = .slice (some ⟨g, 0, none⟩) (n + 3) cap ∧ W.cell? ⟨g, n + 2, none⟩ = some c ∧ W.frozen? ⟨g, n + 2, none⟩ = false := by
  rcases h.2 with ⟨_, e⟩ | ⟨g, cap, cur, rfl, _⟩
  · omega
  · refine ⟨g, cap, rfl, ?_, h.frozenAt _⟩
    rw [h.cellAt (n + 2) (by omega), List.getElem?_append_right (by omega), show n + 2 - xs.length = 2 by omega]
    rfl
end Go.Proofs.YtmmgdeoballhpaaDoor
