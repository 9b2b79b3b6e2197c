/- What OrderParts wants besides: lists that are written over and grown, each within its own block. -/
import Derived.Test.YtijjogpldoafjaaDoorJ19
import Derived.Test.YtijjogpldoafjaaDoorR2Red
import Derived.Test.YtijjogpldoafjaaDoorOGlue1
import Derived.Test.YtijjogpldoafjaaDoorJ13
namespace Go.Proofs.YtijjogpldoafjaaDoor
open Go.RowKit Go.Shelf Sx

/-- append onto a slice of one's own: the elder slice holds what it held. -/
theorem run_append_keeps {P : Program} (w : World) (base : Nat) (t ty e : TypeId) (i : TypeInfo) (z : Value) (size bytes : Nat) (ht : P.underlying t = some (.slice e)) (hi : P.info? e = some i) (hz : i.zero = some z)
    (hsize : i.size = size) (hby : i.bytes = bytes) (hzs : z.cells.size = size) (hsz : 0 < size)
    (v : Value) (n : Nat) (xs : List Value) (hown : w.ownsRow base e size v n xs)
    (a : Addr) (m c : Nat) (news : List Value) (hl : news.length = m * size) (hnews : ∀ j u, news[j]? = some u → w.cell? (a.add j) = some u) (h1 : ∀ u ∈ news, u.oneCell' = true)
    (h63 : n + m ≤ maxLen) (hbytes : (n + m) * bytes ≤ 140737488355328) (hbase : base ≤ w.heap.size) :
    ∃ v' w', (Builtin.append_ #[t, t] ty #[v, .slice (some a) m c]).run P w = .ok v' w' ∧ w'.ownsRow base e size v' (n + m) (xs ++ news) ∧ w'.ownsRow base e size v n xs ∧ w.grownBy w' v.ownBlock ∧ (v'.ownBlock = v.ownBlock ∨ v'.ownBlock = some w.heap.size) := by
  obtain ⟨v', w', hr, h2, h3, _, h5⟩ := run_append_own_at (P := P) w base t ty e i z size bytes ht hi hz hsize hby hzs hsz v n xs hown a m c news hl hnews h1 h63 hbytes hbase
  refine ⟨v', w', hr, h2, ?_, h3, h5⟩
  subst hsize
  subst hby
  have hsmall : n + m ≤ 9223372036854775807 := by simp only [maxLen] at h63; omega
  rcases hown.2 with ⟨rfl, rfl⟩ | ⟨g, cap, cur, rfl, hbg, hg, hnc, hcm, hcs, htake⟩
  · exact ⟨hown.1, .inl ⟨rfl, rfl⟩⟩
  · by_cases hroom : n + m ≤ cap
    · have hfit : n * i.size + news.length ≤ cur.size := by rw [hl, hcs, ← Nat.add_mul]; exact Nat.mul_le_mul_right _ hroom
      have hr2 := run_append_room (P := P) w t ty e i ht hi g n cap cur hg a m c news hl hnews h1 hroom hfit
      rw [hr] at hr2
      injection hr2 with e1 _
      subst e1
      rcases h2.2 with ⟨e2, _⟩ | ⟨g', cap', cur', e2, _, hg', _, _, hcs', ht'⟩
      · cases e2
      · injection e2 with e2 _ e3
        injection e2 with e2
        injection e2 with e2
        subst e2
        subst e3
        refine ⟨hown.1, .inr ⟨g, cap, cur', rfl, hbg, hg', hnc, hcm, hcs', ?_⟩⟩
        have hx := hown.1
        have : (cur'.toList.take ((n + m) * i.size)).take (n * i.size) = (xs ++ news).take (n * i.size) := by rw [ht']
        rw [List.take_take, Nat.min_eq_left (Nat.mul_le_mul_right _ (by omega)), ← hx, List.take_left] at this
        rw [← hx]
        exact this
    · have holds : ∀ j u, xs[j]? = some u → w.cell? ((⟨g, 0, none⟩ : Addr).add j) = some u := hown.cells (g := g) rfl
      have hr2 := run_append_grow (P := P) w t ty e i z ht hi hz ⟨g, 0, none⟩ n cap xs hown.1 holds a m c news hl hnews (by omega) (by omega) (growslice_fits (by omega) hbytes)
      rw [hr] at hr2
      injection hr2 with _ e2
      subst e2
      refine owns_keep hown (fun k hk => ?_)
      simp [Value.ownBlock] at hk
      subst hk
      exact Below.heap_alloc w.drew _ g (Array.getElem?_eq_some_iff.1 hg).1
theorem wpList_append_keeps {P : Program} (w : World) {ops : Array Oper} {rest : List Oper} {o : Oper} {a : Act} {Q : Exit → Act → World → Prop} (hgd : o.guard = none) (s x : Operand) (t : TypeId)
    (ho : o.op = .call { callee := .builtin .append, args := #[s, x], argTypes := #[t, t] })
    (base : Nat) (e : TypeId) (i : TypeInfo) (z : Value) (size bytes : Nat) (ht : P.underlying t = some (.slice e)) (hi : P.info? e = some i) (hz : i.zero = some z)
    (hsize : i.size = size) (hby : i.bytes = bytes) (hzs : z.cells.size = size) (hsz : 0 < size)
    (v : Value) (n : Nat) (xs : List Value) (hs : a.eval s = v) (hown : w.ownsRow base e size v n xs)
    (ad : Addr) (m c : Nat) (news : List Value) (hx : a.eval x = .slice (some ad) m c) (hl : news.length = m * size) (hnews : ∀ j u, news[j]? = some u → w.cell? (ad.add j) = some u) (h1 : ∀ u ∈ news, u.oneCell' = true)
    (h63 : n + m ≤ maxLen) (hbytes : (n + m) * bytes ≤ 140737488355328) (hbase : base ≤ w.heap.size)
    (h : ∀ v' w', w'.ownsRow base e size v' (n + m) (xs ++ news) → w'.ownsRow base e size v n xs → w.grownBy w' v.ownBlock → (v'.ownBlock = v.ownBlock ∨ v'.ownBlock = some w.heap.size) → wpList P ops Q rest (a.put o.dst v') w') :
    wpList P ops Q (o :: rest) a w := by
  refine wpList_plain hgd fun K hK => ?_
  obtain ⟨v', w', hr, h2, h3, h4, h5⟩ := run_append_keeps (P := P) w base t o.type e i z size bytes ht hi hz hsize hby hzs hsz v n xs hown ad m c news hl hnews h1 h63 hbytes hbase
  unfold Oper.wp execOp
  simp only [ho, resolve, invoke, builtin, Sem.run_bind, Sem.run_pure, Result.andThen_ok, List.map_toArray, List.map_cons, List.map_nil, hs, hx, hr]
  exact hK _ _ (h v' w' h2 h3 h4 h5)
/-- All but the blocks from lo to hi is as it was. -/
structure Fr (lo hi : Nat) (W W' : World) : Prop where
  os : W'.os = W.os
  tape : W'.tape = W.tape
  output : W'.output = W.output
  size : W.heap.size ≤ W'.heap.size
  block : ∀ k, k < W.heap.size → (k < lo ∨ hi ≤ k) → W'.heap[k]? = W.heap[k]?
theorem Fr.refl (lo hi : Nat) (W : World) : Fr lo hi W W := ⟨rfl, rfl, rfl, Nat.le_refl _, fun _ _ _ => rfl⟩
theorem Fr.below {lo hi : Nat} {W W' : World} (h : Fr lo hi W W') (hl : lo ≤ W.heap.size) : Below lo W W' := ⟨h.os, h.tape, h.output, h.size, fun k hk => h.block k (by omega) (.inl hk)⟩
theorem Fr.set {lo hi : Nat} {W W' : World} (h : Fr lo hi W W') {g : Nat} (hg : (lo ≤ g ∧ g < hi) ∨ W.heap.size ≤ g) (j : Nat) (v : Value) : Fr lo hi W (W'.setCell ⟨g, j, none⟩ v) :=
  ⟨h.os, h.tape, h.output, by simpa [World.setCell] using h.size, fun k hk hk2 => (Below.heap_setCell _ _ _ _ (by show k ≠ g; omega)).trans (h.block k hk hk2)⟩
theorem Fr.grown {lo hi : Nat} {W W' W'' : World} {o : Obj} {row : Option Nat} (h : Fr lo hi W W') (hg : (W'.alloc o).grownBy W'' row) (hr : ∀ g, row = some g → lo ≤ g ∧ g < hi) : Fr lo hi W W'' := by
  refine ⟨hg.os.trans h.os, hg.tape.trans h.tape, hg.output.trans h.output, Nat.le_trans h.size (Nat.le_trans (by simp) hg.size), fun k hk hk2 => ?_⟩
  have h1 := h.size
  rw [hg.block k (by simp; omega) (fun e => by have := hr k e.symm; omega), Below.heap_alloc _ _ _ (by omega)]
  exact h.block k hk hk2
theorem ClR.frame {lo hi base : Nat} {W W' : World} {v : Value} {vs : List Value} {ls : List (List Int)} (h : ClR W base v vs ls) (hf : Fr lo hi W W') (hb : hi ≤ base) : ClR W' base v vs ls :=
  ⟨owns_keep h.own (fun g hg => hf.block g (h.own.lt g hg).2 (.inr (Nat.le_trans hb (h.own.lt g hg).1))), h.rows.keep (fun _ _ g hx hg => hf.block g (h.rows.lt hx hg).2 (.inr (Nat.le_trans hb (h.rows.lt hx hg).1)))⟩
theorem set_same {vs : List Value} {k : Nat} {x : Value} (h : vs[k]? = some x) : vs.set k x = vs := by
  apply List.ext_getElem?
  intro i
  rw [List.getElem?_set]
  by_cases e : k = i
  · subst e
    rw [if_pos rfl, if_pos (List.getElem?_eq_some_iff.1 h).1, h]
  · rw [if_neg e]
theorem encJ_set (l : List Int) (j : Nat) (u : Int) : (encJ l).set j (.int .i64 u) = encJ (l.set j u) := by simp [encJ, List.map_set]
theorem ClR.store {W : World} {base k g m cap : Nat} {v : Value} {vs : List Value} {ls : List (List Int)} {l : List Int} (h : ClR W base v vs ls) (hx : vs[k]? = some (.slice (some ⟨g, 0, none⟩) m cap)) (hl : ls[k]? = some l) (j : Nat) (u : Int) : ClR (W.setCell ⟨g, j, none⟩ (.int .i64 u)) base v vs (ls.set k (l.set j u)) := by
  have ho := h.rows.row k _ l hx hl
  have hm : m = l.length := by
    rcases ho.2 with ⟨e, _⟩ | ⟨g', c', cur, e, _⟩
    · cases e
    · injection e
  subst hm
  have hne : v.ownBlock ≠ some g := h.ne hx rfl
  refine ⟨owns_keep h.own (fun q hq => Below.heap_setCell _ _ _ _ (fun e => hne (by have e : q = g := e; rw [← e]; exact hq))), ?_⟩
  have := h.rows.swap (W' := W.setCell ⟨g, j, none⟩ (.int .i64 u)) (l' := l.set j u) hx (x' := .slice (some ⟨g, 0, none⟩) l.length cap) (by
    rw [List.length_set, ← encJ_set]
    exact (ho.stored j (.int .i64 u)).1) (.inl rfl) (fun q hq _ hne2 => Below.heap_setCell _ _ _ _ (fun e => hne2 (by have e : q = g := e; rw [e]; rfl)))
  rw [set_same hx] at this
  exact this
theorem ClR.after {W W5 : World} {base k : Nat} {v x : Value} {vs : List Value} {ls : List (List Int)} {l : List Int} {o : Obj} (h : ClR W base v vs ls) (hx : vs[k]? = some x) (hl : ls[k]? = some l) (hg : (W.alloc o).grownBy W5 x.ownBlock) (hk : W5.ownsRow base 3 1 x l.length (encJ l)) : ClR W5 base v vs ls := by
  refine ⟨owns_keep h.own (fun q hq => ?_), ?_⟩
  · have := (h.own.lt q hq).2
    rw [hg.block q (by simp; omega) (fun e => h.ne hx e.symm hq), Below.heap_alloc _ _ _ this]
  · have := h.rows.swap (W' := W5) (l' := l) hx (x' := x) hk (.inl rfl) (fun q hq _ hne2 => by rw [hg.block q (by simp; omega) hne2, Below.heap_alloc _ _ _ hq])
    rw [set_same hx] at this
    have e : ls.set k l = ls := by
      apply List.ext_getElem?
      intro i
      rw [List.getElem?_set]
      by_cases e : k = i
      · subst e
        rw [if_pos rfl, if_pos (List.getElem?_eq_some_iff.1 hl).1, hl]
      · rw [if_neg e]
    rw [e] at this
    exact this
/-- A store behind a list's end, or in a block that none of them has. -/
theorem ClR.beyond {W : World} {base k g j : Nat} {v x : Value} {vs : List Value} {ls : List (List Int)} {l : List Int} {u : Value} (h : ClR W base v vs ls) (hx : vs[k]? = some x) (hl : ls[k]? = some l) (hg : (x.ownBlock = some g ∧ l.length ≤ j) ∨ ((∀ (i : Nat) (y : Value), vs[i]? = some y → y.ownBlock ≠ some g) ∧ v.ownBlock ≠ some g)) : ClR (W.setCell ⟨g, j, none⟩ u) base v vs ls := by
  have hvg : v.ownBlock ≠ some g := by
    rcases hg with ⟨h1, _⟩ | ⟨_, h2⟩
    · exact h.ne hx h1
    · exact h2
  have far : ∀ q, q ≠ g → (W.setCell ⟨g, j, none⟩ u).heap[q]? = W.heap[q]? := fun q hq => Below.heap_setCell _ _ _ _ hq
  refine ⟨owns_keep h.own (fun q hq => far q (fun e => hvg (by rw [← e]; exact hq))), ?_⟩
  rcases hg with ⟨h1, h2⟩ | ⟨h1, _⟩
  · have ho := h.rows.row k x l hx hl
    have ho2 : (W.setCell ⟨g, j, none⟩ u).ownsRow base 3 1 x l.length (encJ l) := by
      rcases ho.2 with ⟨e, _⟩ | ⟨g', c', cur, e, _⟩
      · subst e; cases h1
      · subst e
        simp [Value.ownBlock] at h1
        subst h1
        have := (ho.stored j u).1
        rw [List.set_eq_of_length_le (by simp [encJ]; omega)] at this
        exact this
    exact ⟨h.rows.len, fun i y l' hy hl' => by
      by_cases e : k = i
      · subst e
        rw [hx] at hy
        rw [hl] at hl'
        cases hy; cases hl'
        exact ho2
      · exact owns_keep (h.rows.row i y l' hy hl') (fun q hq => far q (fun e2 => e (h.rows.apart k i x y g hx hy h1 (by rw [← e2]; exact hq)))), h.rows.apart⟩
  · exact h.rows.keep (fun i y q hy hq => far q (fun e => h1 i y hy (by rw [← e]; exact hq)))
/-- A list's mark, and the lists that are marked. -/
def mkL (i : Nat) (l : List Int) : List Int := List.replicate l.length (-1 - (i : Int))
def mrkK (ls : List (List Int)) (k : Nat) : List (List Int) := ls.mapIdx (fun i l => if i < k then mkL i l else l)
theorem mrkK_zero (ls : List (List Int)) : mrkK ls 0 = ls := by
  unfold mrkK
  apply List.ext_getElem?
  intro i
  rw [List.getElem?_mapIdx]
  cases ls[i]? <;> simp
theorem mrkK_at {ls : List (List Int)} {k i : Nat} {l : List Int} (h : ls[i]? = some l) : (mrkK ls k)[i]? = some (if i < k then mkL i l else l) := by
  unfold mrkK
  rw [List.getElem?_mapIdx, h]
  rfl
theorem mrkK_length (ls : List (List Int)) (k : Nat) : (mrkK ls k).length = ls.length := by simp [mrkK]
theorem mrkK_succ {ls : List (List Int)} {k : Nat} {l : List Int} (h : ls[k]? = some l) : (mrkK ls k).set k (mkL k l) = mrkK ls (k + 1) := by
  apply List.ext_getElem?
  intro i
  rw [List.getElem?_set]
  by_cases e : k = i
  · subst e
    rw [if_pos rfl, if_pos (by rw [mrkK_length]; exact (List.getElem?_eq_some_iff.1 h).1), mrkK_at h, if_pos (by omega)]
  · rw [if_neg e]
    unfold mrkK
    rw [List.getElem?_mapIdx, List.getElem?_mapIdx]
    cases ls[i]? with
    | none => rfl
    | some l' =>
      simp only [Option.map_some]
      congr 1
      have : i < k ↔ i < k + 1 := by omega
      simp only [this]
def midL (k j : Nat) (l : List Int) : List Int := List.replicate j (-1 - (k : Int)) ++ l.drop j
theorem midL_zero (k : Nat) (l : List Int) : midL k 0 l = l := by simp [midL]
theorem midL_all (k : Nat) (l : List Int) : midL k l.length l = mkL k l := by simp [midL, mkL]
theorem midL_length {k j : Nat} {l : List Int} (h : j ≤ l.length) : (midL k j l).length = l.length := by simp [midL]; omega
theorem midL_set {k j : Nat} {l : List Int} (h : j < l.length) : (midL k j l).set j (-1 - (k : Int)) = midL k (j + 1) l := by
  unfold midL
  rw [List.set_append_right _ _ (by simp), List.length_replicate, Nat.sub_self, List.drop_eq_getElem_cons h, List.set_cons_zero, List.replicate_succ']
  simp
theorem mkL_at {k j : Nat} {l : List Int} (h : j < l.length) : (mkL k l)[j]? = some (-1 - (k : Int)) := by simp [mkL, h]
theorem encPs_PI (l : List (Nat × Nat)) : encPs l = encPI (l.map (fun x => (((x.1 : Nat) : Int), ((x.2 : Nat) : Int)))) := by
  unfold encPs encPI
  rw [List.flatMap_map]
theorem owns_parg2 {w : World} {base : Nat} {v : Value} {l : List (Nat × Nat)} (h : w.ownsRow base 37 2 v l.length (encPs l)) (hl : l.length * 16 ≤ 140737488355328) : PArg w v (l.map (fun x => (((x.1 : Nat) : Int), ((x.2 : Nat) : Int)))) := by
  refine owns_parg (base := base) ?_ (by simpa using hl)
  rw [List.length_map, ← encPs_PI]
  exact h
theorem owns_last {W : World} {base n : Nat} {e : TypeId} {v a b c : Value} {xs : List Value} (h : W.ownsRow base e 1 v (n + 3) (xs ++ [a, b, c])) (hx : xs.length = n) : ∃ g cap, v = .slice (some ⟨g, 0, none⟩) (n + 3) cap ∧ W.cell? ⟨g, n + 2, none⟩ = some c ∧ W.frozen? ⟨g, n + 2, none⟩ = false := by
  rcases h.2 with ⟨_, e⟩ | ⟨g, cap, cur, rfl, _⟩
  · omega
  · refine ⟨g, cap, rfl, ?_, h.frozenAt _⟩
    rw [h.cellAt (n + 2) (by omega), List.getElem?_append_right (by omega), show n + 2 - xs.length = 2 by omega]
    rfl
end Go.Proofs.YtijjogpldoafjaaDoor
/- The statement OrderParts, walked. -/
namespace Go.Proofs.YtijjogpldoafjaaDoor
open Go.RowKit Go.Shelf Sx

theorem compsL_ok {L : List Nat} (hn : L.length ≤ 256) : (compsL L).length ≤ 256 ∧ ∀ bl ∈ compsL L, bl.length ≤ 256 := by
  obtain ⟨g1, g2, _⟩ := sortOf_good (betw L (clsK (bothE (cloB L)) L.length))
  have hc := cls_len (bothE (cloB L)) L.length
  rw [betw_length] at g2
  have h1 := sub_len _ (List.range (clsK (bothE (cloB L)) L.length).length) g1 (fun i hi => List.mem_range.2 (g2 i hi))
  rw [List.length_range] at h1
  refine ⟨?_, fun bl hbl => ?_⟩
  · unfold compsL sbOf
    rw [List.length_map]
    omega
  · unfold compsL sbOf at hbl
    obtain ⟨i, hi, rfl⟩ := List.mem_map.1 hbl
    have hil := g2 i hi
    rw [List.getD_eq_getElem?_getD, List.getElem?_eq_getElem hil]
    have hm : (clsK (bothE (cloB L)) L.length)[i] ∈ clsK (bothE (cloB L)) L.length := List.getElem_mem hil
    obtain ⟨u, _, e⟩ := List.mem_map.1 hm
    rw [Option.getD_some, ← e]
    have := cl_len (bothE (cloB L)) L.length u
    omega
set_option maxRecDepth 100000 in
set_option maxHeartbeats 16000000 in
theorem OrderParts_calls (n : Int) (v1 : Value) (l1 : List (Int × Int)) (w : World) (hT : Tab w) (a1 : PArg w v1 l1) :
    Calls Tryd.prog 6 #[.int .i64 n, v1] w fun e w' => e = .returned (.bool true) ∧ Below w.heap.size w w' := by
  obtain ⟨i0, hi, hz0, hz1, hz2⟩ := info_parts Tryd.infoint
  go_enter Tryd.func6, Tryd.ntmps6
  go_wp2_with fail
  refine (OfT n v1 l1 _ a1).mono ?_
  rintro e w1 ⟨b, c, rfl, hM1⟩
  have hB1 := hM1.below
  have hR1 := hM1.rel
  clear hM1
  go_wp2_with fail
  refine (refOf_calls n v1 l1 _ (a1.below hB1)).mono ?_
  rintro e w2 ⟨M, rb, rfl, hF2, hB2⟩
  obtain ⟨x2, y2, z2, rfl⟩ := hF2.slice
  have hn : clampN n ≤ 256 := by unfold clampN; omega
  have HTw := hid_of (twO_of n l1)
  have HLo := hid_of hR1.low
  have hLn := (twO_of n l1).len
  generalize hF : ofFn (clampN n) l1 = F at *
  clear hF
  generalize hLL : ofL n l1 = L at *
  have HLL := hid_of hLL
  clear hLL
  rw [← hLn] at hn HTw hF2 ⊢
  clear hLn
  have hX2 : Below w.heap.size w w2 := below_step hB1 hB1.size hB2
  have hR2 := hR1.below hB2
  have hbx := Blk.new w2 46 #[.int .i64 ((L.length : Nat) : Int), .slice x2 y2 z2]
  have hbA := (Below.refl w2.heap.size w2).alloc (Nat.le_refl _) (.cells #[.int .i64 ((L.length : Nat) : Int), .slice x2 y2 z2] 46)
  have hX3 : Below w.heap.size w (w2.alloc (.cells #[.int .i64 ((L.length : Nat) : Int), .slice x2 y2 z2] 46)) := below_step hX2 hX2.size hbA
  have HR3 := hid_of (hR2.below hbA)
  have HF3 := hid_of (hF2.below hbA)
  have HX3 := hid_of hX3
  have Hbx := hid_of hbx
  clear hX3 hbx hbA hR1 hR2 hF2 hX2 hB1 hB2
  go_wp2_with fail
  generalize (w2.alloc (.cells #[.int .i64 ((L.length : Nat) : Int), .slice x2 y2 z2] 46)) = w3 at *
  generalize w2.heap.size = g8 at *
  refine (oComponents_calls b c L F w3 HR3.out (hT.step HX3.out) HTw.out).mono ?_
  rintro e w4 ⟨va, vsa, rfl, hCa, hB4⟩
  have hX4 := below_step HX3.out HX3.out.size hB4
  have HCa := hid_of hCa
  go_wp2_with fail
  refine (oComponents_calls b c L F w4 (HR3.out.below hB4) (hT.step hX4) HTw.out).mono ?_
  rintro e w5 ⟨vb, vsb, rfl, hCb, hB5⟩
  have hX5 := below_step hX4 hX4.size hB5
  have hB35 : Below w3.heap.size w3 w5 := below_step hB4 hB4.size hB5
  have d0 := (Hbx.out.of_below hB35).cell (j := 0) rfl
  have d1 := (Hbx.out.of_below hB35).cell (j := 1) rfl
  go_wp2_with fail
  refine (r2comp_calls _ L.length hn x2 y2 z2 rb F L w5 (HF3.out.below hB35) rfl HTw.out HLo.out).mono ?_
  rintro e w6 ⟨vp, vsp, rfl, hCp, hB6⟩
  have hX6 := below_step hX5 hX5.size hB6
  have hB36 : Below w3.heap.size w3 w6 := below_step hB35 hB35.size hB6
  have hok := compsL_ok hn
  have HCa6 := hid_of (((hCa.step hB5).step hB6))
  have HCb6 := hid_of (hCb.step hB6)
  have HCp6 := hid_of hCp
  have hhi : w3.heap.size ≤ w4.heap.size := hB4.size
  have hhi2 : w4.heap.size ≤ w6.heap.size := Nat.le_trans hB5.size hB6.size
  have hhi3 : w4.heap.size ≤ w5.heap.size := hB5.size
  have HAB : Hid ((∀ (i : Nat) (y : Value) (g : Nat), vsa[i]? = some y → y.ownBlock = some g → w3.heap.size ≤ g ∧ g < w4.heap.size) ∧ ∀ g, va.ownBlock = some g → g < w4.heap.size) := ⟨fun i y g hy hg => hCa.rows.lt hy hg, fun g hg => (hCa.own.lt g hg).2⟩
  have HOK := hid_of hok.2
  have hok1 := hok.1
  generalize hcs : compsL L = cs at *
  clear hcs hok
  have hls := lists2_same va vp cs w6 HCa6.out.blocks HCp6.out.blocks (by omega) (fun bl hbl => by have := HOK.out bl hbl; omega)
  clear d0 d1 hCa hCb hCp hB5 hB6 HCa hB35 hX4 hX5
  go_wp2_with fail
  refine hls.mono ?_
  rintro e w7 ⟨rfl, hB7⟩
  have HCa7 := hid_of (HCa6.out.step hB7)
  have HCb7 := hid_of (HCb6.out.step hB7)
  have HCp7 := hid_of (HCp6.out.step hB7)
  have hB37 : Below w3.heap.size w3 w7 := below_step hB36 hB36.size hB7
  have hhi4 : w4.heap.size ≤ w7.heap.size := Nat.le_trans hhi2 hB7.size
  have hvl : vsa.length = cs.length := by have := HCa7.out.rows.len; simpa using this
  obtain ⟨pa, ca, rfl⟩ := owns_len HCa7.out.own
  have HVL := hid_of hvl
  have HLN : Hid (∀ (k : Nat) (l : List Int), (cs.map toI)[k]? = some l → l.length ≤ 256) := fun k l hl => by
    obtain ⟨bl, hbl, rfl⟩ := List.mem_map.1 (List.mem_of_getElem? hl)
    rw [toI_length]
    exact HOK.out bl hbl
  have hcl : (cs.map toI).length = cs.length := by simp
  have hvb : vsa.length ≤ 256 := by rw [hvl]; exact hok1
  have HCL := hid_of hcl
  clear hls HCa6 HCb6 HCp6 hB36 hB7 hX6 hvl hcl
  go_wp2_with fail
  generalize hls : cs.map toI = ls at *
  have HLS := hid_of hls
  clear hls
  have HF7 := hid_of (Fr.refl w3.heap.size w4.heap.size w7)
  go_loopg [10] vsa.length (fun f i wr => ∃ k : Nat, i = .int .i64 ((k : Nat) : Int) ∧ k ≤ vsa.length ∧ Hid (k + f = vsa.length) ∧ Hid (ClR wr w3.heap.size (.slice pa vsa.length ca) vsa (mrkK ls k)) ∧ Hid (Fr w3.heap.size w4.heap.size w7 wr))
  case atStart => exact ⟨0, rfl, Nat.zero_le _, Nat.zero_add _, by rw [mrkK_zero]; exact HCa7.out, HF7.out⟩
  case round =>
    clear HCa7 HF7
    obtain ⟨k, rfl, hk, HKF, HC, HF⟩ := hrel
    by_cases hlt : k < vsa.length
    · obtain ⟨x, hx⟩ : ∃ x, vsa[k]? = some x := ⟨_, List.getElem?_eq_getElem hlt⟩
      obtain ⟨l, hl⟩ : ∃ l, ls[k]? = some l := ⟨_, List.getElem?_eq_getElem (by rw [HCL.out, ← HVL.out]; exact hlt)⟩
      have hll := HLN.out k l hl
      have HX := hid_of hx
      have HL := hid_of hl
      have k0 : (0 : Int) ≤ ((k : Nat) : Int) := by omega
      have k1 : ((k : Nat) : Int) < ((vsa.length : Nat) : Int) := by omega
      have HC0 : Hid (ClR wr w3.heap.size (.slice pa vsa.length ca) vsa ((mrkK ls k).set k (midL k 0 l))) := by
        rw [Hid, midL_zero]
        have e : (mrkK ls k).set k l = mrkK ls k := by
          apply List.ext_getElem?
          intro i
          rw [List.getElem?_set]
          by_cases e : k = i
          · subst e
            rw [if_pos rfl, if_pos (by rw [mrkK_length, HCL.out, ← HVL.out]; exact hlt), mrkK_at hl, if_neg (by omega)]
          · rw [if_neg e]
        rw [e]
        exact HC.out
      obtain ⟨s, capo, e1, hs1, hs2⟩ := owns_cells HC.out.own rfl (by omega)
      injection e1 with e1 _ e3
      subst e1
      obtain ⟨xa, xc, hxe⟩ := owns_len (HC.out.rows.row k x _ hx (mrkK_at hl))
      rw [if_neg (by omega)] at hxe
      subst hxe
      clear hx hl hs1 hs2 HC e3
      go_wp2_with fail
      go_loopg [11] l.length (fun f i wr => ∃ j : Nat, i = .int .i64 ((j : Nat) : Int) ∧ j ≤ l.length ∧ Hid (j + f = l.length) ∧ Hid (ClR wr w3.heap.size (.slice (some ⟨s, 0, none⟩) vsa.length ca) vsa ((mrkK ls k).set k (midL k j l))) ∧ Hid (Fr w3.heap.size w4.heap.size w7 wr))
      case atStart => exact ⟨0, rfl, Nat.zero_le _, Nat.zero_add _, HC0.out, HF.out⟩
      case round =>
        clear HC0 HF
        obtain ⟨j, rfl, hj, HJF, HC, HF⟩ := hrel
        have HMK : Hid (((mrkK ls k).set k (midL k j l))[k]? = some (midL k j l)) := by
          rw [Hid, List.getElem?_set, if_pos rfl, if_pos (by rw [mrkK_length, HCL.out, ← HVL.out]; exact hlt)]
        obtain ⟨s', capo, e1, hs1, hs2⟩ := owns_cells HC.out.own rfl (by omega)
        injection e1 with e1 _ e3
        injection e1 with e1
        injection e1 with e1
        subst e1
        have c0 := hs2 k _ HX.out
        clear hs2 e3
        have ho := HC.out.rows.row k _ _ HX.out HMK.out
        rw [midL_length hj] at ho
        by_cases hjl : j < l.length
        · have j0 : (0 : Int) ≤ ((j : Nat) : Int) := by omega
          have j1 : ((j : Nat) : Int) < ((l.length : Nat) : Int) := by omega
          obtain ⟨g, rfl⟩ : ∃ g, xa = some ⟨g, 0, none⟩ := by
            rcases ho.2 with ⟨_, e⟩ | ⟨g, cap, cur, e, _⟩
            · omega
            · injection e with e _ _
              exact ⟨g, e⟩
          have c1 := ho.cellAt j (by omega)
          have hml : j < (encJ (midL k j l)).length := by rw [show (encJ (midL k j l)).length = (midL k j l).length by simp [encJ], midL_length hj]; exact hjl
          rw [List.getElem?_eq_getElem hml] at c1
          have f1 := ho.frozenAt j
          have hC2 := HC.out.store HX.out HMK.out j (-1 - (k : Int))
          rw [midL_set hjl, List.set_set] at hC2
          have hF2 := HF.out.set (.inl (HAB.out.1 k _ g HX.out rfl)) j (.int .i64 (-1 - (k : Int)))
          generalize (encJ (midL k j l))[j] = ov at *
          clear ho hml
          go_wp2_with fail
          go_roundg (l.length - (j + 1))
          case measure => have := HJF.out; omega
          case rel => exact ⟨j + 1, by go_num, by omega, by have := HJF.out; rw [Hid]; omega, hC2, hF2⟩
        · obtain rfl : j = l.length := by omega
          rw [midL_all] at ho HMK HC
          rw [mrkK_succ HL.out] at HC HMK
          have HO := hid_of ho
          have hnw : ∀ j u, ([.int .i64 7, .int .i64 7, .int .i64 7] : List Value)[j]? = some u → (wr.alloc (.cells #[.int .i64 7, .int .i64 7, .int .i64 7] 3)).cell? ((⟨wr.heap.size, 0, none⟩ : Addr).add j) = some u := by
            intro j u hj
            rw [Addr.add_lit, Nat.zero_add]
            exact (Blk.new wr 3 #[.int .i64 7, .int .i64 7, .int .i64 7]).cell (by simpa using hj)
          have HNW := hid_of hnw
          have hN3 : ((l.length + 3 : Nat) : Int) - 1 = ((l.length + 2 : Nat) : Int) := by omega
          have hsz := HF.out.size
          have zz : w3.heap.size ≤ wr.heap.size := by omega
          clear ho hnw
          go_wp2_with (at_builtin; refine wpList_append_keeps _ rfl _ _ 29 rfl w3.heap.size 3 i0 (.int .i64 0) 1 8 Tryd.underlying29 hi hz0 hz1 hz2 rfl (by decide) (.slice xa l.length xc) l.length (encJ (mkL k l)) rfl (HO.out.alloc _) ⟨_, 0, none⟩ 3 3 [.int .i64 7, .int .i64 7, .int .i64 7] rfl rfl HNW.out (by simp [Value.oneCell']) (by unfold maxLen; omega) (by omega) (by simp; omega) ?_; intro v' w5 hown' hkeep hgrow hat; obtain ⟨g6, c6, hv6, hc6, hf6⟩ := owns_last hown' (by simp [encJ, mkL]); subst hv6)
          have hml : (mkL k l).length = l.length := by simp [mkL]
          have hC5 := HC.out.after HX.out HMK.out hgrow (by rw [hml]; exact hkeep)
          have hcase : ((Value.slice xa l.length xc).ownBlock = some g6) ∨ g6 = wr.heap.size + 1 := by
            rcases hat with e | e
            · exact .inl e.symm
            · right
              simp [Value.ownBlock] at e
              exact e
          have hC6 := hC5.beyond (g := g6) (j := l.length + 2) (u := .int .i64 8) HX.out HMK.out (by
            rcases hcase with e | e
            · exact .inl ⟨e, by omega⟩
            · refine .inr ⟨fun i y hy hyg => ?_, fun hyg => ?_⟩
              · have := (HC.out.rows.lt hy hyg).2
                omega
              · have := (HC.out.own.lt _ hyg).2
                omega)
          have hF6 := (HF.out.grown hgrow (fun g e => HAB.out.1 k _ g HX.out e)).set (g := g6) (by
            rcases hcase with e | e
            · exact .inl (HAB.out.1 k _ g6 HX.out e)
            · right; omega) (l.length + 2) (.int .i64 8)
          go_roundg (vsa.length - (k + 1))
          case measure => have := HKF.out; omega
          case rel => exact ⟨k + 1, by go_num, by omega, by have := HKF.out; rw [Hid]; omega, hC6, hF6⟩
    · obtain rfl : k = vsa.length := by omega
      have HC9 := hid_of HC.out
      have HF9 := hid_of HF.out
      clear HC HF
      go_wp2_with fail
      go_loopg [13] vsa.length (fun f i wr => ∃ k : Nat, i = .int .i64 ((k : Nat) : Int) ∧ k ≤ vsa.length ∧ Hid (k + f = vsa.length) ∧ Hid (ClR wr w3.heap.size (.slice pa vsa.length ca) vsa (mrkK ls vsa.length)) ∧ Hid (Fr w3.heap.size w4.heap.size w7 wr))
      case atStart => exact ⟨0, rfl, Nat.zero_le _, Nat.zero_add _, HC9.out, HF9.out⟩
      case round =>
        clear HC9 HF9
        obtain ⟨k, rfl, hk, HKF, HC, HF⟩ := hrel
        by_cases hlt : k < vsa.length
        · obtain ⟨x, hx⟩ : ∃ x, vsa[k]? = some x := ⟨_, List.getElem?_eq_getElem hlt⟩
          obtain ⟨l, hl⟩ : ∃ l, ls[k]? = some l := ⟨_, List.getElem?_eq_getElem (by rw [HCL.out, ← HVL.out]; exact hlt)⟩
          have hll := HLN.out k l hl
          have hmk := mrkK_at (k := vsa.length) hl
          rw [if_pos hlt] at hmk
          have ho := HC.out.rows.row k x _ hx hmk
          have hml : (mkL k l).length = l.length := by simp [mkL]
          rw [hml] at ho
          have HX := hid_of hx
          have HMK := hid_of hmk
          have k0 : (0 : Int) ≤ ((k : Nat) : Int) := by omega
          have k1 : ((k : Nat) : Int) < ((vsa.length : Nat) : Int) := by omega
          obtain ⟨s, capo, e1, hs1, hs2⟩ := owns_cells HC.out.own rfl (by omega)
          injection e1 with e1 _ e3
          subst e1
          obtain ⟨xa, xc, rfl⟩ := owns_len ho
          clear hx hl hmk hs1 hs2 e3 ho
          go_wp2_with fail
          go_loopg [14] l.length (fun f i wr => ∃ j : Nat, i = .int .i64 ((j : Nat) : Int) ∧ j ≤ l.length ∧ Hid (j + f = l.length) ∧ Hid (ClR wr w3.heap.size (.slice (some ⟨s, 0, none⟩) vsa.length ca) vsa (mrkK ls vsa.length)) ∧ Hid (Fr w3.heap.size w4.heap.size w7 wr))
          case atStart => exact ⟨0, rfl, Nat.zero_le _, Nat.zero_add _, HC.out, HF.out⟩
          case round =>
            clear HC HF
            obtain ⟨j, rfl, hj, HJF, HC, HF⟩ := hrel
            obtain ⟨s', capo, e1, hs1, hs2⟩ := owns_cells HC.out.own rfl (by omega)
            injection e1 with e1 _ e3
            injection e1 with e1
            injection e1 with e1
            subst e1
            have c0 := hs2 k _ HX.out
            clear hs2 e3
            have ho := HC.out.rows.row k _ _ HX.out HMK.out
            rw [hml] at ho
            by_cases hjl : j < l.length
            · have j0 : (0 : Int) ≤ ((j : Nat) : Int) := by omega
              have j1 : ((j : Nat) : Int) < ((l.length : Nat) : Int) := by omega
              obtain ⟨g, rfl⟩ : ∃ g, xa = some ⟨g, 0, none⟩ := by
                rcases ho.2 with ⟨_, e⟩ | ⟨g, cap, cur, e, _⟩
                · omega
                · injection e with e _ _
                  exact ⟨g, e⟩
              have c1 : wr.cell? ⟨g, j, none⟩ = some (.int .i64 (-1 - (k : Int))) := by
                rw [ho.cellAt j (by omega)]
                unfold encJ
                rw [List.getElem?_map, mkL_at hjl]
                rfl
              have q1 : ((-1 - (k : Int)) != (-1 - (k : Int))) = false := by simp
              clear ho
              go_wp2_with fail
              go_roundg (l.length - (j + 1))
              case measure => have := HJF.out; omega
              case rel => exact ⟨j + 1, by go_num, by omega, by have := HJF.out; rw [Hid]; omega, HC.out, HF.out⟩
            · obtain rfl : j = l.length := by omega
              clear ho
              go_wp2_with fail
              go_roundg (vsa.length - (k + 1))
              case measure => have := HKF.out; omega
              case rel => exact ⟨k + 1, by go_num, by omega, by have := HKF.out; rw [Hid]; omega, HC.out, HF.out⟩
        · obtain rfl : k = vsa.length := by omega
          have hBm : Below w3.heap.size w3 wr := hB37.trans (HF.out.below (Nat.le_trans hhi hhi4))
          have hCb := HCb7.out.frame HF.out (Nat.le_refl _)
          have hCp := HCp7.out.frame HF.out hhi3
          rw [← HLS.out] at hCb hCp
          have hl2 := lists2_same vb vp cs wr hCb.blocks hCp.blocks (by omega) (fun bl hbl => by have := HOK.out bl hbl; omega)
          have HL2 := hid_of hl2
          clear hl2 hCb hCp HCb7 HCp7 HC HF hB37 HLN HAB HLS
          go_wp2_with fail
          refine HL2.out.mono ?_
          rintro e w10 ⟨rfl, hB10⟩
          have hBx : Below w3.heap.size w3 w10 := below_step hBm hBm.size hB10
          clear hBm hB10 HL2
          have hTw : Twin L.length F L := ⟨wf_of_low HLo.out, fun p q hp hq => by rw [HTw.out.same p q hp hq]; rfl⟩
          have hirl := twin_irr (twin_plus hTw)
          have d0 := (Hbx.out.of_below hBx).cell (j := 0) rfl
          have d1 := (Hbx.out.of_below hBx).cell (j := 1) rfl
          have hXx := below_step HX3.out HX3.out.size hBx
          cases hirr : irrF L.length (plusFn F L.length)
          · rw [hirr] at hirl
            have HIR := hid_of hirr
            have HL0 : Hid ((loopsL (plusL L) == 0) = false) := hirl.symm
            clear hirr hirl hTw
            go_wp2_with fail
            refine (r2red_no _ L.length hn x2 y2 z2 rb F w10 (HF3.out.below hBx) HIR).mono ?_
            rintro e w11 ⟨xr, yr, zr, rfl, hB11⟩
            clear d0 d1
            have hBy : Below w3.heap.size w3 (w11.alloc (.cells #[.int .i64 0, .slice xr yr zr] 46)) := (below_step hBx hBx.size hB11).alloc (Nat.le_trans hBx.size hB11.size) _
            have HBy := hid_of hBy
            clear hBy hB11 hBx hXx
            go_wp2_with fail
            generalize (w11.alloc (.cells #[.int .i64 0, .slice xr yr zr] 46)) = w12 at *
            refine (oReduction_no b c L w12 (HR3.out.below HBy.out) HL0).mono ?_
            rintro e w13 ⟨rfl, hB13⟩
            have hBz := below_step HBy.out HBy.out.size hB13
            go_wp2_with fail
            refine (oReduction_no b c L w13 (HR3.out.below hBz) HL0).mono ?_
            rintro e w14 ⟨rfl, hB14⟩
            have hBz2 := below_step hBz hBz.size hB14
            have hX14 := below_step HX3.out HX3.out.size hBz2
            go_wp2_with fail
            refine (lives2_calls w14 (hT.step hX14)).mono ?_
            rintro e w15 ⟨rfl, hB15⟩
            go_wp2_with fail
            go_ret
            exact ⟨rfl, below_step hX14 hX14.size hB15⟩
          · rw [hirr] at hirl
            have HIR := hid_of hirr
            have HL0 : Hid ((loopsL (plusL L) == 0) = true) := hirl.symm
            have hP := twin_plus hTw
            have htr : Twin L.length (redF L.length F) (redL L) := twin_minus hP (twin_comp hn hP hP (N := L.length) (by omega)) (by omega)
            have HTR := hid_of htr
            clear hirr hirl hTw hP htr
            go_wp2_with fail
            refine (r2red_yes _ L.length hn x2 y2 z2 rb F w10 (HF3.out.below hBx) HIR).mono ?_
            rintro e w11 ⟨M, rb5, rfl, hM11, hB11⟩
            obtain ⟨xr, yr, zr, rfl⟩ := hM11.slice
            clear d0 d1
            have hBy : Below w3.heap.size w3 (w11.alloc (.cells #[.int .i64 ((L.length : Nat) : Int), .slice xr yr zr] 46)) := (below_step hBx hBx.size hB11).alloc (Nat.le_trans hBx.size hB11.size) _
            have hwb := Blk.new w11 46 #[.int .i64 ((L.length : Nat) : Int), .slice xr yr zr]
            have HWB := hid_of hwb
            have HMA := hid_of (hM11.alloc (.cells #[.int .i64 ((L.length : Nat) : Int), .slice xr yr zr] 46))
            have HBy := hid_of hBy
            clear hBy hB11 hBx hXx hM11 hwb
            go_wp2_with fail
            generalize (w11.alloc (.cells #[.int .i64 ((L.length : Nat) : Int), .slice xr yr zr] 46)) = w12 at *
            generalize w11.heap.size = gw at *
            refine (oReduction_yes b c L w12 (HR3.out.below HBy.out) (hT.step (below_step HX3.out HX3.out.size HBy.out)) HL0).mono ?_
            rintro e w13 ⟨b3, c3, rfl, hM13⟩
            have hBz := below_step HBy.out HBy.out.size hM13.below
            go_wp2_with fail
            refine (oReduction_yes b c L w13 (HR3.out.below hBz) (hT.step (below_step HX3.out HX3.out.size hBz)) HL0).mono ?_
            rintro e w14 ⟨b4, c4, rfl, hM14⟩
            have hc4 := hM14.hc
            have hrl : (redL L).length = L.length := HTR.out.wf.len
            have HI4 := hid_of hM14.rel
            have HB4 := hid_of hM14.below
            clear hM14
            go_wp2_with fail
            go_loopg [21] L.length (fun f i wr => ∃ (p : Nat) (A : List Nat), i = .int .i64 ((p : Nat) : Int) ∧ p ≤ L.length ∧ Hid (p + f = L.length) ∧ A.length = L.length ∧ Hid (IsRel wr b4 c4 A) ∧ Hid (Touch c4 w14 wr))
            case atStart => exact ⟨0, redL L, rfl, Nat.zero_le _, Nat.zero_add _, hrl, HI4.out, Touch.of_below (Below.refl _ _)⟩
            case round =>
              clear HI4
              obtain ⟨p, A, rfl, hp, HPF, hA, HI, HTo⟩ := hrel
              have hlen := Len_calls b4 c4 A wr HI.out
              rw [hA] at hlen
              by_cases hlt : p < L.length
              · go_wp2_with fail
                refine hlen.mono ?_
                rintro e w' ⟨rfl, hw'⟩
                obtain rfl : wr = w' := hw'.symm
                go_wp2_with fail
                refine (Put_calls b4 c4 A ((p : Nat) : Int) ((p : Nat) : Int) true wr HI.out).mono ?_
                rintro e w16 ⟨rfl, hI16, ht16⟩
                go_wp2_with fail
                go_roundg (L.length - (p + 1))
                case measure => have := HPF.out; omega
                case rel => exact ⟨p + 1, _, by go_num, by omega, by have := HPF.out; rw [Hid]; omega, by rw [putP_length]; exact hA, hI16, ⟨ht16.os.trans HTo.out.os, ht16.tape.trans HTo.out.tape, ht16.output.trans HTo.out.output, Nat.le_trans HTo.out.size ht16.size, fun k hk hk2 => (ht16.block k (Nat.lt_of_lt_of_le hk HTo.out.size) hk2).trans (HTo.out.block k hk hk2)⟩⟩
              · obtain rfl : p = L.length := by omega
                have hBq : Below w13.heap.size w13 wr := HB4.out.trans (HTo.out.below hc4 HB4.out.size)
                have hBw : Below w3.heap.size w3 wr := below_step hBz hBz.size hBq
                have hXw : Below w.heap.size w wr := below_step HX3.out HX3.out.size hBw
                have h12 : Below w12.heap.size w12 wr := below_step hM13.below hM13.below.size hBq
                have HI3 := hid_of (hM13.rel.below hBq)
                have hwb := HWB.out.of_below h12
                have HMW := hid_of (HMA.out.below h12)
                have g0 : wr.cell? ⟨gw, 0, none⟩ = some (.int .i64 ((L.length : Nat) : Int)) := hwb.cell rfl
                have g1 : wr.cell? ⟨gw, 1, none⟩ = some (.slice xr yr zr) := hwb.cell rfl
                have HK : Hid (∀ W, Below wr.heap.size wr W → W.cell? ⟨gw, 0, none⟩ = some (.int .i64 ((L.length : Nat) : Int)) ∧ W.cell? ⟨gw, 1, none⟩ = some (.slice xr yr zr)) := fun W hW => ⟨(hwb.of_below hW).cell rfl, (hwb.of_below hW).cell rfl⟩
                have HRR := hid_of (HR3.out.below hBw)
                have HXW := hid_of hXw
                have hln : ∀ W, Below wr.heap.size wr W → Calls Tryd.prog 30 #[pv b3] W fun e w' => e = .returned (.int .i64 ((L.length : Nat) : Int)) ∧ w' = W := fun W hW => by
                  have := Len_calls b3 c3 (redL L) W (HI3.out.below hW)
                  rw [hrl] at this
                  exact this
                have HLEN := hid_of hln
                have HPS : Hid (prsF L.length (redF L.length F) L.length 0 = pairsL (redL L)) := (twin_pairs hn HTR.out).symm
                have hpl : (pairsL (redL L)).length ≤ 65536 := by have := pairsK_length (redL L) (redL L).length; simp only [pairsL]; omega
                have q1 : (((L.length : Nat) : Int) == ((L.length : Nat) : Int)) = true := by simp
                clear hBq hBw hXw h12 hwb hM13 HWB HMA HI HTo HB4 hln
                go_wp2_with fail
                refine hlen.mono ?_
                rintro e w' ⟨rfl, hw'⟩
                obtain rfl : wr = w' := hw'.symm
                clear hlen
                go_wp2_with fail
                go_region_held3 (fun W => W.cell? ⟨gw, 0, none⟩ = some (.int .i64 ((L.length : Nat) : Int)) ∧ W.cell? ⟨gw, 1, none⟩ = some (.slice xr yr zr)) (first | assumption | exact ⟨g0, g1⟩) (first | (go_at_call 30; refine (HLEN.out _ (Below.refl _ _).drew).mono ?_; rintro e w17 ⟨rfl, hw17⟩; subst hw17; have KL := HK.out _ (Below.refl wr.heap.size wr).drew) | (go_at_call 33; refine (Pairs_calls b3 c3 (redL L) _ (HI3.out.below (Below.refl _ _).drew) (hT.step HXW.out.drew)).mono ?_; rintro e w20 ⟨v20, rfl, ho20, hB20⟩; have hx20 : Below wr.heap.size wr w20 := below_of_drew' hB20; have HX20 := hid_of hx20; have K20 := HK.out _ hx20) | (go_at_call 34; refine (refPairs_calls _ L.length hn xr yr zr rb5 (redF L.length F) _ (HMW.out.below HX20.out)).mono ?_; rw [HPS.out]; rintro e w21 ⟨v21, rfl, ho21, hB21⟩; have hx21 := below_step HX20.out HX20.out.size hB21; have HX21 := hid_of hx21; have K21 := HK.out _ hx21) | (go_at_call 32; refine (same2_calls v20 v21 ((pairsL (redL L)).map (fun x => (((x.1 : Nat) : Int), ((x.2 : Nat) : Int)))) _ (owns_parg2 (owns_below' ho20 hB21) (by omega)) (owns_parg2 ho21 (by omega)) (by simp; omega)).mono ?_; rintro e w22 ⟨rfl, hB22⟩; have hx22 := below_step HX21.out HX21.out.size hB22; have HX22 := hid_of hx22; have K22 := HK.out _ hx22) | (go_at_call 17; refine (OfT n v1 l1 _ (a1.below (below_step HXW.out HXW.out.size HX22.out))).mono ?_; rw [HLL.out]; rintro e w23 ⟨b9, c9, rfl, hM23⟩; have hx23 := below_step HX22.out HX22.out.size hM23.below; have HX23 := hid_of hx23; have K23 := HK.out _ hx23) | (go_at_call 18; refine (Equal_calls b c b9 c9 L L _ (HRR.out.below HX23.out) hM23.rel).mono ?_; rw [show (L == L) = true from by simp]; rintro e w24 ⟨rfl, hB24⟩; have hx24 := below_step HX23.out HX23.out.size hB24; have HX24 := hid_of hx24; have K24 := HK.out _ hx24) | (go_at_call 11; refine (lives2_calls _ (hT.step (below_step HXW.out HXW.out.size HX24.out))).mono ?_; rintro e w25 ⟨rfl, hB25⟩; have hx25 := below_step HX24.out HX24.out.size hB25; have HX25 := hid_of hx25; have K25 := HK.out _ hx25))
                go_wp2_with fail
                go_ret
                exact ⟨rfl, below_step HXW.out HXW.out.size HX25.out⟩
end Go.Proofs.YtijjogpldoafjaaDoor
