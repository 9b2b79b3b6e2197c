/- The reference's more: what it has in memory. -/
import Derived.Test.YtmmgdeoballhpaaDoorJ18
import Derived.Test.YtmmgdeoballhpaaDoorJ12
import Derived.Test.YtmmgdeoballhpaaDoorJ17
import Derived.Test.YtmmgdeoballhpaaDoorJ15
import Derived.Test.YtmmgdeoballhpaaDoorJ09
import Derived.Test.YtmmgdeoballhpaaDoorJ13
namespace Go.Proofs.YtmmgdeoballhpaaDoor
open Go.RowKit Go.Shelf Sx

/-- A list of lists that are read, itself of our own. -/
structure RdL (W : World) (base : Nat) (v : Value) (vs : List Value) (ls : List (List Int)) : Prop where
  own : W.ownsRow base 29 1 v vs.length vs
  len : vs.length = ls.length
  row : ∀ (i : Nat) (x : Value) (l : List Int), vs[i]? = some x → ls[i]? = some l → W.ownsRow 0 3 1 x l.length (encJ l)
theorem RdL.at_ {W : World} {base : Nat} {v : Value} {vs : List Value} {ls : List (List Int)} (h : RdL W base v vs ls) {i : Nat} {x : Value} (hx : vs[i]? = some x) : ∃ l, ls[i]? = some l ∧ W.ownsRow 0 3 1 x l.length (encJ l) := by
  have hi : i < vs.length := (List.getElem?_eq_some_iff.1 hx).1
  have hl : ls[i]? = some (ls[i]'(by have := h.len; omega)) := List.getElem?_eq_getElem _
  exact ⟨_, hl, h.row i x _ hx hl⟩
theorem RdL.nil (W : World) (base : Nat) : RdL W base (.slice none 0 0) [] [] := ⟨World.ownsRow_nil _ _ _ _, rfl, fun i x l h => by simp at h⟩
theorem RdL.step {W W' : World} {base : Nat} {v : Value} {vs : List Value} {ls : List (List Int)} (h : RdL W base v vs ls) (hb : Below W.heap.size W W') : RdL W' base v vs ls :=
  ⟨owns_below' h.own hb, h.len, fun i x l hx hl => owns_below' (h.row i x l hx hl) hb⟩
theorem RdL.lo {W : World} {base b' : Nat} {v : Value} {vs : List Value} {ls : List (List Int)} (h : RdL W base v vs ls) (hb : b' ≤ base) : RdL W b' v vs ls := ⟨owns_lo h.own hb, h.len, h.row⟩
theorem RdL.ne {W : World} {base : Nat} {v x : Value} {vs : List Value} {ls : List (List Int)} {b2 m : Nat} {xs : List Value} (h : RdL W base v vs ls) (hx : W.ownsRow b2 3 1 x m xs) {g : Nat} (hg : x.ownBlock = some g) : v.ownBlock ≠ some g := by
  intro e
  obtain ⟨c1, h1⟩ := owns_blk hx hg
  obtain ⟨c2, h2⟩ := owns_blk h.own e
  exact absurd (blk_type h1 h2) (by decide)
theorem RdL.keeps {W W5 : World} {base : Nat} {v x : Value} {vs : List Value} {ls : List (List Int)} {l : List Int} {o : Obj} (h : RdL W base v vs ls) (hx : W.ownsRow 0 3 1 x l.length (encJ l)) (hg : (W.alloc o).grownBy W5 v.ownBlock) : W5.ownsRow 0 3 1 x l.length (encJ l) :=
  owns_keep hx (fun g e => by
    have hl := (hx.lt g e).2
    rw [hg.block g (by simp; omega) (fun e2 => h.ne hx e e2.symm), Below.heap_alloc _ _ _ hl])
theorem RdL.add {W W5 : World} {base : Nat} {v v' x : Value} {vs : List Value} {ls : List (List Int)} {l : List Int} {o : Obj} (h : RdL W base v vs ls) (hx : W.ownsRow 0 3 1 x l.length (encJ l))
    (hown : W5.ownsRow base 29 1 v' (vs.length + 1) (vs ++ [x])) (hg : (W.alloc o).grownBy W5 v.ownBlock) : RdL W5 base v' (vs ++ [x]) (ls ++ [l]) := by
  have hlen := h.len
  refine ⟨by rw [List.length_append]; exact hown, by simp [hlen], fun i y l' hy hl => ?_⟩
  by_cases hi : i < vs.length
  · rw [List.getElem?_append_left hi] at hy
    rw [List.getElem?_append_left (by omega)] at hl
    exact h.keeps (h.row i y l' hy hl) hg
  · have hi2 : i = vs.length := by have := (List.getElem?_eq_some_iff.1 hy).1; simp at this; omega
    subst hi2
    rw [List.getElem?_append_right (Nat.le_refl _)] at hy
    rw [hlen, List.getElem?_append_right (Nat.le_refl _)] at hl
    simp at hy hl
    subst hy
    subst hl
    exact h.keeps hx hg
/-- Another list of lists, which lies elsewhere. -/
theorem RdL.other {W W5 : World} {base b2 : Nat} {v u : Value} {vs us : List Value} {ls ms : List (List Int)} {o : Obj} (h : RdL W base v vs ls) (k : RdL W b2 u us ms) (hne : ∀ g, u.ownBlock = some g → v.ownBlock ≠ some g) (hg : (W.alloc o).grownBy W5 v.ownBlock) : RdL W5 b2 u us ms :=
  ⟨owns_keep k.own (fun g e => by
    have hl := (k.own.lt g e).2
    rw [hg.block g (by simp; omega) (fun e2 => hne g e e2.symm), Below.heap_alloc _ _ _ hl]), k.len, fun i x l hx hl => h.keeps (k.row i x l hx hl) hg⟩
theorem RdL.blocks {W : World} {base : Nat} {v : Value} {vs : List Value} {bs : List (List Nat)} (h : RdL W base v vs (bs.map toI)) : BlocksR W v bs := by
  have hlen : vs.length = bs.length := by have := h.len; simpa using this
  obtain ⟨a, cap, e⟩ := owns_len h.own
  refine ⟨a, cap, by rw [← hlen]; exact e, vs, hlen, fun h0 => ?_, fun i u bl hu hbl => ?_⟩
  · obtain ⟨s, cap', e1, h1, h2⟩ := owns_cells h.own rfl (by omega)
    rw [e] at e1
    injection e1 with e1 _ _
    exact ⟨s, e1, h1, h2⟩
  · exact owns_intsR (h.row i u (toI bl) hu (by rw [List.getElem?_map, hbl]; rfl))
theorem RdL.one {W : World} {base : Nat} {x : Value} {l : List Int} (hb : base ≤ W.heap.size) (hx : W.ownsRow 0 3 1 x l.length (encJ l)) : RdL (W.alloc (.cells #[x] 29)) base (.slice (some ⟨W.heap.size, 0, none⟩) 1 1) [x] [l] := by
  refine ⟨⟨rfl, .inr ⟨W.heap.size, 1, _, rfl, hb, Blk.new W _ _, Nat.le_refl _, by decide, by simp, by simp⟩⟩, rfl, fun i y l' hy hl => ?_⟩
  have hi : i = 0 := by have := (List.getElem?_eq_some_iff.1 hy).1; simp at this; omega
  subst hi
  simp at hy hl
  subst hy
  subst hl
  exact hx.alloc _
/-- What is done with one point more, as far as it is laid. -/
def dmK (n : Nat) (pts : List Nat) (k j : Nat) : List Bool := (List.range n).map (fun q => decide (q < j) && (pts ++ [k]).contains q)
theorem dmK_length (n : Nat) (pts : List Nat) (k j : Nat) : (dmK n pts k j).length = n := by simp [dmK]
theorem dmK_zero (n : Nat) (pts : List Nat) (k : Nat) : dmK n pts k 0 = List.replicate n false := by
  unfold dmK
  apply List.ext_getElem
  · simp
  · intro i h1 h2; simp
theorem dmK_all (n : Nat) (pts : List Nat) (k : Nat) : dmK n pts k n = doneL n (pts ++ [k]) := by
  unfold dmK doneL
  apply List.map_congr_left
  intro q hq
  simp [List.mem_range.1 hq]
theorem dmK_set {n : Nat} (pts : List Nat) (k : Nat) {j : Nat} {b : Bool} (hb : b = (pts ++ [k]).contains j) : (dmK n pts k j).set j b = dmK n pts k (j + 1) := by
  apply List.ext_getElem
  · simp [dmK]
  · intro i h1 h2
    rw [List.getElem_set]
    simp only [dmK, List.getElem_map, List.getElem_range]
    by_cases e : j = i
    · subst e; simp [hb]
    · rw [if_neg e]
      congr 1
      rw [Bool.eq_iff_iff]
      simp
      omega
theorem done_or {pts : List Nat} {k j : Nat} : (pts ++ [k]).contains j = (pts.contains j || (j == k)) := by
  rw [Bool.eq_iff_iff]
  simp
theorem take_enc (l : List Nat) {k : Nat} (h : k < l.length) : encJ (toI (l.take k)) ++ [.int .i64 ((l.getD k 0 : Nat) : Int)] = encJ (toI (l.take (k + 1))) := by
  rw [List.take_succ_eq_append_getElem h, List.getD_eq_getElem?_getD, List.getElem?_eq_getElem h]
  unfold encJ toI
  rw [List.map_append, List.map_append]
  rfl
end Go.Proofs.YtmmgdeoballhpaaDoor
/- What the iterator of package order has in memory, beside what the loop's body has. -/
namespace Go.Proofs.YtmmgdeoballhpaaDoor
open Go.RowKit Go.Shelf Sx

theorem cell_block {w w' : World} {s j : Nat} (h : w'.heap[s]? = w.heap[s]?) : w'.cell? ⟨s, j, none⟩ = w.cell? ⟨s, j, none⟩ := by
  unfold World.cell?
  rw [show (⟨s, j, none⟩ : Addr).block = s from rfl, h]
/-- The line of the iterator, the relation, and what the body has (Fs). -/
structure It (F0 Fs : Nat → Prop) (b c Bn N1 N0 ll bh wt t3 : Nat) (vs : List Value) (L : List Nat) (vp : Value) (pts : List Nat) (W : World) : Prop where
  lnp : LnP W N1 N0 ll bh wt vp (pts.map (fun x => ((x : Nat) : Int))) vs (bkOf L.length (pairsL L)) (wAll L.length (pairsL L) pts)
  t3b : Blk W t3 103 #[pv ll]
  ok : LineOk L.length (pairsL L) pts
  rel : IsRel W b c L
  bn : Blk W Bn 22 #[pv b]
  fs : ∀ k, Fs k → k < W.heap.size ∧ (F0 k ∨ N0 ≤ k) ∧ vp.ownBlock ≠ some k
  nil : pts = [] → L.length = 0 → vp = .slice none 0 0
/-- The iterator's own blocks, and those that it reads. -/
def ItB (b c Bn N1 N0 ll bh wt t3 : Nat) (vp : Value) (k : Nat) : Prop := k = b ∨ k = c ∨ k = Bn ∨ k = t3 ∨ k = ll ∨ k = bh ∨ k = wt ∨ (N1 ≤ k ∧ k < N0) ∨ vp.ownBlock = some k
theorem Ln.kept {G : Nat → Prop} {w w' : World} {N1 N0 l bh wt : Nat} {vp : Value} {vs : List Value} {beh : List (List Nat)} {wts : List Int} (h : Ln w N1 N0 l bh wt vp vs beh wts) (hk : KeptF G w w') (h1 : G l) (h2 : G bh) (h3 : G wt) (h4 : ∀ k, N1 ≤ k → k < N0 → G k) : Ln w' N1 N0 l bh wt vp vs beh wts := by
  obtain ⟨a, b, c, d, e, f, g, hl, hn, hN, hle⟩ := h
  refine ⟨(hk.block _ h1).trans a, (hk.block _ h2).trans b, (hk.block _ h3).trans c, d, e, fun p v bl q1 q2 => ?_, g, hl, hn, ⟨hN.1, Nat.le_trans hN.2 hk.size⟩, hle⟩
  obtain ⟨pp, cap, e1, e2⟩ := f p v bl q1 q2
  refine ⟨pp, cap, e1, fun h0 => ?_⟩
  obtain ⟨s, z1, z2, z3, z4⟩ := e2 h0
  exact ⟨s, z1, z2, z3, fun i x hx => by rw [cell_block (hk.block s (h4 s z2 z3))]; exact z4 i x hx⟩
theorem owns_kept {G : Nat → Prop} {w w' : World} {base : Nat} {e : TypeId} {size : Nat} {v : Value} {n : Nat} {xs : List Value} (h : w.ownsRow base e size v n xs) (hk : KeptF G w w') (hv : ∀ k, v.ownBlock = some k → G k) : w'.ownsRow base e size v n xs := by
  refine ⟨h.1, ?_⟩
  rcases h.2 with h2 | ⟨g, cap, cur, rfl, h4, h5, h6⟩
  · exact .inl h2
  · exact .inr ⟨g, cap, cur, rfl, h4, (hk.block g (hv g rfl)).trans h5, h6⟩
theorem It.move {F0 Fs Fs' G : Nat → Prop} {b c Bn N1 N0 ll bh wt t3 : Nat} {vs : List Value} {L : List Nat} {vp : Value} {pts : List Nat} {W W' : World} (h : It F0 Fs b c Bn N1 N0 ll bh wt t3 vs L vp pts W) (hk : KeptF G W W')
    (hG : ∀ k, k < W.heap.size → ItB b c Bn N1 N0 ll bh wt t3 vp k → G k) (hfs : ∀ k, Fs' k → k < W'.heap.size ∧ (F0 k ∨ N0 ≤ k) ∧ vp.ownBlock ≠ some k) : It F0 Fs' b c Bn N1 N0 ll bh wt t3 vs L vp pts W' := by
  obtain ⟨⟨hl, ho⟩, h2, h3, ⟨r1, r2, r3, r4, r5⟩, h5, h6, h7⟩ := h
  have hN := hl.hN
  refine ⟨⟨hl.kept hk (hG _ hl.st.lt ?_) (hG _ hl.bhB.lt ?_) (hG _ hl.wtB.lt ?_) (fun k q1 q2 => hG k (by omega) ?_), owns_kept ho hk (fun k e => hG k (ho.lt k e).2 ?_)⟩, (hk.block _ (hG _ h2.lt ?_)).trans h2, h3, ⟨r1, (hk.block _ (hG _ r2.lt ?_)).trans r2, (hk.block _ (hG _ r3.lt ?_)).trans r3, r4, r5⟩, (hk.block _ (hG _ h5.lt ?_)).trans h5, hfs, h7⟩
  all_goals
    unfold ItB
    simp_all
theorem It.step {F0 Fs : Nat → Prop} {b c Bn N1 N0 ll bh wt t3 : Nat} {vs : List Value} {L : List Nat} {vp : Value} {pts : List Nat} {W W' : World} (h : It F0 Fs b c Bn N1 N0 ll bh wt t3 vs L vp pts W) (hb : Below W.heap.size W W') : It F0 Fs b c Bn N1 N0 ll bh wt t3 vs L vp pts W' :=
  h.move (G := fun k => k < W.heap.size) (KeptF.of_below hb fun _ hk => hk) (fun _ hk _ => hk) (fun k hk => ⟨Nat.lt_of_lt_of_le (h.fs k hk).1 hb.size, (h.fs k hk).2⟩)
/-- Where the iterator's blocks lie. -/
structure ItS (F0 : Nat → Prop) (S0 D l b c Bn N1 N0 ll bh wt t3 : Nat) : Prop where
  lo : S0 ≤ ll ∧ S0 ≤ bh ∧ S0 ≤ wt ∧ S0 ≤ t3 ∧ S0 ≤ N1
  t3 : t3 < N0 ∧ t3 ≠ ll ∧ t3 ≠ wt
  old : b < S0 ∧ c < S0 ∧ Bn < S0 ∧ D < S0 ∧ l < S0
  f0 : ∀ k, F0 k → k < S0 ∧ k ≠ b ∧ k ≠ c ∧ k ≠ Bn
  l : l ≠ b ∧ l ≠ c ∧ l ≠ Bn
section
variable {F0 Fs : Nat → Prop} {S0 D l b c Bn N1 N0 ll bh wt t3 : Nat} {vs : List Value} {L : List Nat} {vp : Value} {pts : List Nat} {W : World}
theorem It.put (hS : ItS F0 S0 D l b c Bn N1 N0 ll bh wt t3) (h : It F0 Fs b c Bn N1 N0 ll bh wt t3 vs L vp pts W) {p : Nat} (hp : p < L.length) (h0 : wAt (pairsL L) pts p = 0) :
    Calls Tryd.prog 67 #[pv ll, .int .i64 p] W fun e w' => (∃ r, e = .returned r) ∧ (∃ vp', It F0 Fs b c Bn N1 N0 ll bh wt t3 vs L vp' (pts ++ [p]) w') ∧ KeptF (fun k => Fs k ∨ k < S0) W w' := by
  have hle := line_le h.ok
  have hL := h.rel.len
  have hN := h.lnp.ln.hN
  have hlw := h.lnp.ln.low
  have := oPut2_calls N1 N0 ll bh wt vp _ vs _ _ p W h.lnp (by rw [wAll_length]; exact hp) (wAll_sm L hL pts) (by simp; omega)
  rw [count_wAll _ pts hp (wAt_zero h0).1, show (pts.map (fun x => ((x : Nat) : Int))) ++ [(p : Int)] = (pts ++ [p]).map (fun x => ((x : Nat) : Int)) from by simp] at this
  refine this.mono ?_
  rintro e w' ⟨hr, ⟨vp', hlp, hown⟩, hK⟩
  have hge : ∀ k, vp.ownBlock = some k → N0 ≤ k := fun k e => owns_ge h.lnp.own e
  have hlo := hS.lo
  have ht := hS.t3
  have hold := hS.old
  refine ⟨hr, ⟨vp', hlp, ?_, h.ok.snoc hp h0, ⟨h.rel.ne, ?_, ?_, hL, h.rel.low⟩, ?_, fun k hk => ?_, fun e => by simp at e⟩, hK.mono fun k hk => ?_⟩
  · exact (hK.block _ ⟨h.t3b.lt, ht.2.1, ht.2.2, fun e => by have := hge _ e; omega⟩).trans h.t3b
  · exact (hK.block _ ⟨h.rel.head.lt, by omega, by omega, fun e => by have := hge _ e; omega⟩).trans h.rel.head
  · exact (hK.block _ ⟨h.rel.rows.lt, by omega, by omega, fun e => by have := hge _ e; omega⟩).trans h.rel.rows
  · exact (hK.block _ ⟨h.bn.lt, by omega, by omega, fun e => by have := hge _ e; omega⟩).trans h.bn
  · obtain ⟨f1, f2, f3⟩ := h.fs k hk
    refine ⟨Nat.lt_of_lt_of_le f1 hK.size, f2, fun e => ?_⟩
    rcases hown k e with e | e
    · exact f3 e
    · omega
  · rcases hk with hk | hk
    · obtain ⟨f1, f2, f3⟩ := h.fs k hk
      rcases f2 with f2 | f2
      · have := (hS.f0 k f2).1
        exact ⟨f1, by omega, by omega, f3⟩
      · exact ⟨f1, by omega, by omega, f3⟩
    · exact ⟨by omega, by omega, by omega, fun e => by have := hge _ e; omega⟩
theorem It.take (hS : ItS F0 S0 D l b c Bn N1 N0 ll bh wt t3) {p : Nat} (h : It F0 Fs b c Bn N1 N0 ll bh wt t3 vs L vp (pts ++ [p]) W) :
    Calls Tryd.prog 69 #[pv ll] W fun e w' => e = .returned (.int .i64 p) ∧ (∃ vp', It F0 Fs b c Bn N1 N0 ll bh wt t3 vs L vp' pts w') ∧ KeptF (fun k => Fs k ∨ k < S0) W w' := by
  obtain ⟨hok, hp, hnp⟩ := h.ok.pre
  have hle := line_le hok
  have hL := h.rel.len
  have hN := h.lnp.ln.hN
  have hlw := h.lnp.ln.low
  have hlnp := h.lnp
  rw [show (pts ++ [p]).map (fun x => ((x : Nat) : Int)) = (pts.map (fun x => ((x : Nat) : Int))) ++ [(p : Int)] from by simp] at hlnp
  have := oTake_calls N1 N0 ll bh wt vp _ vs _ _ p W hlnp (by rw [wAll_length]; exact hp) (wAll_sm L hL _) (by simp; omega)
  rw [take_wAll _ pts hp hnp] at this
  refine this.mono ?_
  rintro e w' ⟨hr, ⟨vp', hlp, hown⟩, hK⟩
  have hlo := hS.lo
  have ht := hS.t3
  have hold := hS.old
  refine ⟨hr, ⟨vp', hlp, ?_, hok, ⟨h.rel.ne, ?_, ?_, hL, h.rel.low⟩, ?_, fun k hk => ?_, fun _ e => absurd e (by omega)⟩, ⟨hK.os, hK.tape, hK.output, hK.size, fun k hk => ?_⟩⟩
  · exact (hK.block _ h.t3b.lt ht.2.1 ht.2.2).trans h.t3b
  · exact (hK.block _ h.rel.head.lt (by omega) (by omega)).trans h.rel.head
  · exact (hK.block _ h.rel.rows.lt (by omega) (by omega)).trans h.rel.rows
  · exact (hK.block _ h.bn.lt (by omega) (by omega)).trans h.bn
  · obtain ⟨f1, f2, f3⟩ := h.fs k hk
    exact ⟨Nat.lt_of_lt_of_le f1 hK.size, f2, by rw [hown]; exact f3⟩
  · rcases hk with hk | hk
    · obtain ⟨f1, f2, f3⟩ := h.fs k hk
      rcases f2 with f2 | f2
      · have := (hS.f0 k f2).1
        exact hK.block k f1 (by omega) (by omega)
      · exact hK.block k f1 (by omega) (by omega)
    · exact hK.block k (by omega) (by omega) (by omega)
theorem It.next (h : It F0 Fs b c Bn N1 N0 ll bh wt t3 vs L vp pts W) {f : Nat} (hf : f ≤ L.length) :
    Calls Tryd.prog 65 #[.int .i64 f, pv t3] W fun e w' => e = .returned (nxt (wAll L.length (pairsL L) pts) f) ∧ Below W.heap.size W w' :=
  oNext_calls N1 N0 ll bh wt t3 vp vs _ _ f W h.lnp.ln h.t3b (by rw [wAll_length]; exact hf)
theorem It.clone (h : It F0 Fs b c Bn N1 N0 ll bh wt t3 vs L vp pts W) (hl : pts.length = L.length) :
    Calls Tryd.prog 68 #[vp] W fun e w' => ∃ v, e = .returned v ∧ w'.ownsRow W.heap.size 3 1 v (pts.map (fun x => ((x : Nat) : Int))).length (encJ (pts.map (fun x => ((x : Nat) : Int)))) ∧ Below W.heap.size W w' :=
  cloneI_calls vp _ W (owns_intsR h.lnp.own) (fun e => h.nil (List.map_eq_nil_iff.1 e) (by rw [← hl, List.map_eq_nil_iff.1 e]; rfl)) (by have := h.rel.len; simp; omega)
theorem It.yield {Fs' : Nat → Prop} {W' : World} (hS : ItS F0 S0 D l b c Bn N1 N0 ll bh wt t3) (h : It F0 Fs b c Bn N1 N0 ll bh wt t3 vs L vp pts W) (hk : KeptF (fun k => k < W.heap.size ∧ ¬ Fs k ∧ k ≠ l) W W') (hf : ∀ k, Fs' k → Fs k ∨ W.heap.size ≤ k) (hz : ∀ k, Fs' k → k < W'.heap.size) :
    It F0 Fs' b c Bn N1 N0 ll bh wt t3 vs L vp pts W' := by
  have hlo := hS.lo
  have ht := hS.t3
  have hold := hS.old
  have hll := hS.l
  have hN := h.lnp.ln.hN
  have hlw := h.lnp.ln.low
  have hge : ∀ k, vp.ownBlock = some k → N0 ≤ k := fun k e => owns_ge h.lnp.own e
  refine h.move hk (fun k hkz hB => ⟨hkz, fun hFs => ?_, ?_⟩) (fun k hk' => ⟨hz k hk', ?_⟩)
  · obtain ⟨f1, f2, f3⟩ := h.fs k hFs
    rcases f2 with f2 | f2
    · have := hS.f0 k f2
      rcases hB with e | e | e | e | e | e | e | e | e
      · omega
      · omega
      · omega
      · omega
      · omega
      · omega
      · omega
      · omega
      · exact f3 e
    · rcases hB with e | e | e | e | e | e | e | e | e
      · omega
      · omega
      · omega
      · omega
      · omega
      · omega
      · omega
      · omega
      · exact f3 e
  · rcases hB with e | e | e | e | e | e | e | e | e
    · omega
    · omega
    · omega
    · omega
    · omega
    · omega
    · omega
    · omega
    · have := hge k e
      omega
  · rcases hf k hk' with g | g
    · exact (h.fs k g).2
    · refine ⟨.inr (by omega), fun e => ?_⟩
      have := (h.lnp.own.lt k e).2
      omega
end
end Go.Proofs.YtmmgdeoballhpaaDoor
/- Package order's orders: the whole walk. -/
namespace Go.Proofs.YtmmgdeoballhpaaDoor
open Go.RowKit Go.Shelf Sx
attribute [local go_sem] Oper.semAt_some

/-- What next tells. -/
structure NxI (L pts : List Nat) (fr : Nat) (z : Int) (qz : Bool) : Prop where
  yes : qz = true → ∃ p : Nat, z = (p : Int) ∧ fr ≤ p ∧ p < L.length ∧ wAt (pairsL L) pts p = 0 ∧ ∀ q, fr ≤ q → q < p → wAt (pairsL L) pts q ≠ 0
  no : qz = false → ∀ q, fr ≤ q → q < L.length → wAt (pairsL L) pts q ≠ 0
theorem nxt_form (L pts : List Nat) (fr : Nat) : ∃ z qz, nxt (wAll L.length (pairsL L) pts) fr = .tuple #[.int .i64 z, .bool qz] ∧ Hid (NxI L pts fr z qz) := by
  refine ⟨_, _, rfl, fun h => ?_, fun h => ?_⟩
  · exact fz_drop_some (by simpa using h)
  · exact fz_drop_none (by simpa using h)
theorem NxI.pos {L pts : List Nat} {fr : Nat} {z : Int} (h : NxI L pts fr z true) (hok : LineOk L.length (pairsL L) pts) : pts.length < L.length := by
  obtain ⟨p, _, _, hp, h0, _⟩ := h.yes rfl
  have := line_le (hok.snoc hp h0)
  simp at this
  omega
theorem NxI.more {L pts : List Nat} {z : Int} {qz : Bool} (h : NxI L pts 0 z qz) (hlow : ∀ R ∈ L, R < 2 ^ L.length) (hs : (sortOf L).length = L.length) (hlt : pts.length < L.length) : qz = true := by
  cases qz
  · exfalso
    have hm := line_more (line_rank hlow (sort_line L) hs) hlt
    obtain ⟨p, hp1, hp2, hp3⟩ := fz_range hm
    rw [wAll_length] at hp2
    rw [wAll_at _ _ hp2] at hp3
    exact h.no rfl p (Nat.zero_le _) hp2 (Option.some.inj hp3)
  · rfl
/-- What holds where the next point has been looked for from f on. -/
structure DnI (Srt : Prop) (L : List Nat) (cs all : List (List Nat)) (pts : List Nat) (f : Nat) (qz : Bool) : Prop where
  now : Srt → cs ++ nowF L pts f = all
  none : ¬ Srt → cs = []
  go : Srt → pts.length < L.length → qz = true
set_option linter.unusedSimpArgs false in
set_option maxRecDepth 100000 in
set_option maxHeartbeats 8000000 in
theorem ord1_all (b c Bn l D : Nat) (L : List Nat) (n : Nat) (hn : 1 ≤ n) (W : World) (h : IsRel W b c L) (hT : Tab W) (hBn : Blk W Bn 22 #[pv b])
    {σ : Type} (s0 : σ) (foot : σ → Nat → Prop) (cnt : σ → List (List Nat)) (Y : σ → World → Prop) (Ye : World → Prop)
    (hD : D < W.heap.size ∧ l < W.heap.size ∧ l ≠ b ∧ l ≠ c ∧ l ≠ Bn) (hf0 : ∀ k, foot s0 k → k < W.heap.size ∧ k ≠ b ∧ k ≠ c ∧ k ≠ Bn) (hc0 : cnt s0 = []) (hY0 : Y s0 W)
    (hYf : ∀ s W' k, Y s W' → foot s k → k < W'.heap.size)
    (hst : ∀ s W1 W', Y s W1 → KeptF (fun k => foot s k ∨ k < W.heap.size) W1 W' → Y s W')
    (hY : ∀ s o v W', Y s W' → W'.ownsRow W.heap.size 3 1 v L.length (encN o) → o.length = L.length → (∀ k, v.ownBlock = some k → ¬ foot s k) → (∃ r, cnt s ++ o :: r = allO L) → YieldAt Fence.wide (n - 1) Tryd.prog l #[v] W' fun e W2 => ∃ qb : Bool, e = .returned (.bool qb) ∧
      (qb = true → ∃ s', cnt s' = cnt s ++ [o] ∧ Y s' W2 ∧ (∀ k, foot s' k → foot s k ∨ v.ownBlock = some k ∨ W'.heap.size ≤ k) ∧ KeptF (fun k => k < W'.heap.size ∧ ¬ foot s k ∧ v.ownBlock ≠ some k ∧ k ≠ l) W' W2) ∧ (qb = false → Ye W2)) :
    CallsIn Fence.wide n Tryd.prog 63 #[.func (.yield l) #[] #[], pv Bn] W fun e W' => (∃ r, e = .returned r) ∧ ((∃ s, Y s W' ∧ cnt s = allO L) ∨ Ye W') := by
  have hl := h.len
  have c0 := hBn.cell (j := 0) rfl
  have HLow := hid_of h.low
  have HST := hid_of hst
  have HYF := hid_of hYf
  have HYI := hid_of hY
  clear hst hYf hY
  refine callsIn_of_wp Tryd.func63 rfl trivial ?_ rfl
  simp only [Tryd.ntmps63, List.size_toArray, List.length_cons, List.length_nil, Nat.reduceAdd, Nat.reduceSub, Array.replicate_succ, Array.replicate_zero, List.push_toArray, List.append_toArray, List.nil_append, List.cons_append]
  refine wpIn_scope_wide ?_
  gi_wp2_with (refine ⟨trivial, ?_⟩; gi_at_call 64; refine (callsIn_wide.2 (oNewLine_calls b c L _ h hT)).mono ?_; rintro e w1 ⟨N1, ll, bh, wt, vs, rfl, lo1, lo2, lo3, hnl, hB1⟩)
  have hbA := (Below.refl w1.heap.size w1).alloc (Nat.le_refl _) (.cells #[pv ll] 103)
  have hlp := nlk_ln hnl hbA hl HLow.out
  have ht3 := Blk.new w1 103 #[pv ll]
  have hBW : Below W.heap.size W (w1.alloc (.cells #[pv ll] 103)) := below_step hB1 hB1.size hbA
  have hz : (w1.alloc (.cells #[pv ll] 103)).heap.size = w1.heap.size + 1 := by simp
  have hlw : ll < w1.heap.size ∧ bh < w1.heap.size ∧ wt < w1.heap.size := ⟨hnl.st.lt, hnl.bhB.lt, hnl.wtB.lt⟩
  have hz1 := hB1.size
  have hlow1 := hnl.low
  clear c0 hnl hbA
  refine wpIn_label ?_
  gi_wp2_with fail
  rw [show (Obj.cells #[Value.pointer (some ⟨ll, 0, none⟩)] 103) = Obj.cells #[pv ll] 103 from rfl]
  generalize w1.alloc (.cells #[pv ll] 103) = W2 at *
  generalize w1.heap.size = t3 at *
  have hold : b < W.heap.size ∧ c < W.heap.size ∧ Bn < W.heap.size := ⟨h.head.lt, h.rows.lt, hBn.lt⟩
  have HS : Hid (ItS (foot s0) W.heap.size D l b c Bn N1 W2.heap.size ll bh wt t3) := ⟨⟨lo1, lo2, lo3, hz1, by omega⟩, ⟨by omega, by omega, by omega⟩, ⟨hold.1, hold.2.1, hold.2.2, hD.1, hD.2.1⟩, hf0, ⟨hD.2.2.1, hD.2.2.2.1, hD.2.2.2.2⟩⟩
  have HI0 : Hid (It (foot s0) (foot s0) b c Bn N1 W2.heap.size ll bh wt t3 vs L (.slice none 0 0) [] W2) :=
    ⟨hlp, ht3, LineOk.nil _ _, h.below hBW, hBn.below hBW hBn.lt, fun k hk => ⟨Nat.lt_of_lt_of_le (hf0 k hk).1 hBW.size, .inl hk, by simp [Value.ownBlock]⟩, fun _ _ => rfl⟩
  have HY0 : Hid (Y s0 W2) := HST.out s0 W W2 hY0 (KeptF.of_below hBW fun k hk => by
    rcases hk with hk | hk
    · exact (hf0 k hk).1
    · exact hk)
  obtain ⟨N0, HN0⟩ : ∃ N0, Hid (N0 = W2.heap.size) := ⟨_, rfl⟩
  rw [← HN0.out] at HS HI0
  obtain ⟨all, HALL⟩ : ∃ all, Hid (all = allO L) := ⟨_, rfl⟩
  obtain ⟨Srt, HSRT⟩ : ∃ Srt : Prop, Hid (Srt = ((sortOf L).length = L.length)) := ⟨_, rfl⟩
  have HB0 : Hid (Srt → cnt s0 ++ nowF L [] 0 = all) := fun e => by
    rw [hc0, HALL.out]
    exact now_begin (HSRT.out ▸ e)
  have HC0 := hid_of hc0
  have hWs := hBW.size
  clear hlp ht3 hBW hf0 hc0 hY0 hD hlw hlow1 lo1 lo2 lo3 hz1 hz hold
  have HYB : Hid (∀ s wr w', N0 ≤ wr.heap.size → Y s wr → Below wr.heap.size wr w' → Y s w') := fun s wr w' hz hy hb => HST.out s wr w' hy (KeptF.of_below hb fun k hk => by
    rcases hk with hk | hk
    · exact HYF.out s wr k hy hk
    · have := HS.out.old; have := HS.out.lo; have := HS.out.t3; omega)
  gi_loopg [5] (all.length + 1) (fun k v5 wr => ∃ (s : σ) (fr : Nat) (pts : List Nat) (vp : Value), v5 = .int .i64 ((fr : Nat) : Int) ∧ Hid (fr ≤ L.length) ∧ Hid (Y s wr) ∧ Hid (It (foot s0) (foot s) b c Bn N1 N0 ll bh wt t3 vs L vp pts wr) ∧ Hid (Srt → cnt s ++ nowF L pts fr = all) ∧ Hid (¬ Srt → cnt s = []) ∧ Hid ((pts = [] ∧ fr = 0) ∨ 0 ≤ fz ((wAll L.length (pairsL L) pts).drop fr)) ∧ Hid (all.length + 1 ≤ k + (cnt s).length))
  case atStart => exact ⟨s0, 0, [], _, rfl, Nat.zero_le _, HY0, HI0, HB0.out, fun _ => HC0.out, .inl ⟨rfl, rfl⟩, by rw [Hid, HC0.out]; simp⟩
  case round =>
    clear HI0 HY0 HB0 HC0
    obtain ⟨s, fr, pts, vp, rfl, HFR, HY, HI, HNOW, HNO, HGO, HK⟩ := hrel
    have hnx := HI.out.next HFR.out
    obtain ⟨z, qz, hnf, HNX⟩ := nxt_form L pts fr
    rw [hnf] at hnx
    have HNXC := hid_of hnx
    clear hnx
    gi_wp2_with (refine ⟨trivial, ?_⟩; gi_at_call 65; refine (callsIn_wide.2 HNXC.out).mono ?_; rintro e w3 ⟨rfl, hB3⟩)
    have HI3 := hid_of (HI.out.step hB3)
    have HY3 : Hid (Y s w3) := HYB.out s wr w3 HI.out.lnp.ln.hN.2 HY.out hB3
    obtain ⟨K0, HK0⟩ : ∃ K0, Hid (K0 = gk) := ⟨_, rfl⟩
    have HDN : Hid (DnI Srt L (cnt s) all pts fr qz) := ⟨HNOW.out, HNO.out, fun e hlt => by
      cases hq : qz
      · exfalso
        subst hq
        rcases HGO.out with ⟨_, rfl⟩ | hg
        · have := HNX.out.more HLow.out (HSRT.out ▸ e) hlt
          cases this
        · obtain ⟨p, _, h1, h2, h3, _⟩ := fz_drop_some hg
          exact HNX.out.no rfl p h1 h2 h3
      · rfl⟩
    clear HNXC hnf HI HY HNOW HNO HGO hB3
    gi_loopg [6, 7] (L.length + 1) (fun k v6 v7 wr => ∃ (pts : List Nat) (vp : Value) (f : Nat) (z : Int) (qz : Bool), v6 = .int .i64 z ∧ v7 = .bool qz ∧ Hid (NxI L pts f z qz) ∧ Hid (DnI Srt L (cnt s) all pts f qz) ∧ Hid (L.length + 1 ≤ k + pts.length) ∧ Hid (Y s wr) ∧ Hid (It (foot s0) (foot s) b c Bn N1 N0 ll bh wt t3 vs L vp pts wr))
    case atStart => exact ⟨pts, vp, fr, z, qz, rfl, rfl, HNX, HDN, Nat.le_add_right _ _, HY3, HI3⟩
    case round =>
      clear HI3 HY3 HNX HDN
      obtain ⟨pts, vp, f, z, qz, rfl, rfl, HNX, HDN, HKP, HY, HI⟩ := hrel
      have hptl := line_le HI.out.ok
      cases qz
      · have hlp := HI.out.lnp
        obtain ⟨ap, capp, hvp⟩ := owns_len hlp.own
        rw [List.length_map] at hvp
        have q3 := HI.out.t3b.cell (j := 0) rfl
        have k0 := hlp.ln.st.cell (j := 0) rfl
        have n0 := HI.out.bn.cell (j := 0) rfl
        have hRr := HI.out.rel
        have hNw := hlp.ln.hN
        subst hvp
        clear hlp
        by_cases hful : pts.length < L.length
        · have hd : decide ((pts.length : Int) < (L.length : Int)) = true := decide_eq_true (by omega)
          gi_wp2_with fail
          refine wpIn_wide.2 ?_
          refine wp_region_held_drew (S := (fun w' => w'.cell? ⟨t3, 0, none⟩ = some (pv ll) ∧ w'.cell? ⟨ll, 0, none⟩ = some (.slice ap pts.length capp) ∧ w'.cell? ⟨Bn, 0, none⟩ = some (pv b))) (by kernel_rfl) ⟨q3, k0, n0⟩ (fun hHeld => ?_)
          refine wpAnyH_take (i := 0) (v := ?_) rfl (by kernel_rfl) (by kernel_rfl) (by kernel_rfl) (fun _ _ _ h => h) (Or.inl ⟨by rfl, ?_⟩) (by assumption) ?_
          rotate_left
          · (intro w hSw; (try dsimp only at hSw); go_simp) <;> with_reducible rfl
          simp only [Act.put, List.getElem_toArray, List.getElem_cons_zero, List.getElem_cons_succ, List.setIfInBounds_toArray, List.set_cons_zero, List.set_cons_succ]
          refine wpAnyH_take (i := 1) (v := ?_) rfl (by kernel_rfl) (by kernel_rfl) (by kernel_rfl) (fun _ _ _ h => h) (Or.inl ⟨by rfl, ?_⟩) (by assumption) ?_
          rotate_left
          · (intro w hSw; (try dsimp only at hSw); go_simp) <;> with_reducible rfl
          simp only [Act.put, List.getElem_toArray, List.getElem_cons_zero, List.getElem_cons_succ, List.setIfInBounds_toArray, List.set_cons_zero, List.set_cons_succ]
          refine wpAnyH_take (i := 2) (v := ?_) rfl (by kernel_rfl) (by kernel_rfl) (by kernel_rfl) (fun _ _ _ h => h) (Or.inl ⟨by rfl, ?_⟩) (by assumption) ?_
          rotate_left
          · (intro w hSw; (try dsimp only at hSw); go_simp) <;> with_reducible rfl
          simp only [Act.put, List.getElem_toArray, List.getElem_cons_zero, List.getElem_cons_succ, List.setIfInBounds_toArray, List.set_cons_zero, List.set_cons_succ]
          refine wpAnyH_take (i := 3) (v := ?_) rfl (by kernel_rfl) (by kernel_rfl) (by kernel_rfl) (fun _ _ _ h => h) (Or.inl ⟨by rfl, ?_⟩) (by assumption) ?_
          rotate_left
          · (intro w hSw; (try dsimp only at hSw); go_simp) <;> with_reducible rfl
          simp only [Act.put, List.getElem_toArray, List.getElem_cons_zero, List.getElem_cons_succ, List.setIfInBounds_toArray, List.set_cons_zero, List.set_cons_succ]
          refine wpAnyH_take (i := 4) (v := ?_) rfl (by kernel_rfl) (by kernel_rfl) (by kernel_rfl) (fun _ _ _ h => h) (Or.inl ⟨by rfl, ?_⟩) (by assumption) ?_
          rotate_left
          · (intro w hSw; (try dsimp only at hSw); go_simp) <;> with_reducible rfl
          simp only [Act.put, List.getElem_toArray, List.getElem_cons_zero, List.getElem_cons_succ, List.setIfInBounds_toArray, List.set_cons_zero, List.set_cons_succ]
          refine wpAnyH_take (i := 5) (v := ?_) rfl (by kernel_rfl) (by kernel_rfl) (by kernel_rfl) (fun _ _ _ h => h) (Or.inl ⟨by rfl, ?_⟩) (by assumption) ?_
          rotate_left
          · (intro w hSw; (try dsimp only at hSw); go_simp) <;> with_reducible rfl
          simp only [Act.put, List.getElem_toArray, List.getElem_cons_zero, List.getElem_cons_succ, List.setIfInBounds_toArray, List.set_cons_zero, List.set_cons_succ]
          refine wpAnyH_ready (rs := [6]) (by kernel_rfl) (by simp) ?_
          refine AllReadyH.cons rfl (fun K hK => ?_) AllReadyH.nil
          simp only [List.getElem_toArray, List.getElem_cons_zero, List.getElem_cons_succ]
          go_simp
          refine (Len_calls b c L _ hRr.drew).mono ?_
          rintro e w' ⟨rfl, hw'⟩
          cases hw'
          refine hK.out _ _ ⟨q3, k0, n0⟩ (fun hHeld => ?_)
          clear hK K
          try simp only [Act.put, List.getElem_toArray, List.getElem_cons_zero, List.getElem_cons_succ, List.setIfInBounds_toArray, List.set_cons_zero, List.set_cons_succ]
          refine wpAnyH_take (i := 7) (v := ?_) rfl (by kernel_rfl) (by kernel_rfl) (by kernel_rfl) (fun _ _ _ h => h) (Or.inl ⟨by rfl, ?_⟩) (by assumption) ?_
          rotate_left
          · (intro w hSw; (try dsimp only at hSw); go_simp) <;> with_reducible rfl
          simp only [Act.put, List.getElem_toArray, List.getElem_cons_zero, List.getElem_cons_succ, List.setIfInBounds_toArray, List.set_cons_zero, List.set_cons_succ]
          refine wpAnyH_take (i := 8) (v := ?_) rfl (by kernel_rfl) (by kernel_rfl) (by kernel_rfl) (fun _ _ _ h => h) (Or.inl ⟨by rfl, ?_⟩) (by assumption) ?_
          rotate_left
          · (intro w hSw; (try dsimp only at hSw); go_simp) <;> with_reducible rfl
          simp only [Act.put, List.getElem_toArray, List.getElem_cons_zero, List.getElem_cons_succ, List.setIfInBounds_toArray, List.set_cons_zero, List.set_cons_succ]
          refine wpAnyH_take (i := 9) (v := ?_) rfl (by kernel_rfl) (by kernel_rfl) (by kernel_rfl) (fun _ _ _ h => h) (Or.inr ⟨by rfl, ?_⟩) (by assumption) ?_
          rotate_left
          · rfl
          simp only [Act.put, List.getElem_toArray, List.getElem_cons_zero, List.getElem_cons_succ, List.setIfInBounds_toArray, List.set_cons_zero, List.set_cons_succ]
          refine wpAnyH_take (i := 10) (v := ?_) rfl (by kernel_rfl) (by kernel_rfl) (by kernel_rfl) (fun _ _ _ h => h) (Or.inr ⟨by rfl, ?_⟩) (by assumption) ?_
          rotate_left
          · rfl
          simp only [Act.put, List.getElem_toArray, List.getElem_cons_zero, List.getElem_cons_succ, List.setIfInBounds_toArray, List.set_cons_zero, List.set_cons_succ]
          refine wpAnyH_take (i := 11) (v := ?_) rfl (by kernel_rfl) (by kernel_rfl) (by kernel_rfl) (fun _ _ _ h => h) (Or.inr ⟨by rfl, ?_⟩) (by assumption) ?_
          rotate_left
          · rfl
          simp only [Act.put, List.getElem_toArray, List.getElem_cons_zero, List.getElem_cons_succ, List.setIfInBounds_toArray, List.set_cons_zero, List.set_cons_succ]
          refine wpAnyH_take (i := 12) (v := ?_) rfl (by kernel_rfl) (by kernel_rfl) (by kernel_rfl) (fun _ _ _ h => h) (Or.inr ⟨by rfl, ?_⟩) (by assumption) ?_
          rotate_left
          · rfl
          simp only [Act.put, List.getElem_toArray, List.getElem_cons_zero, List.getElem_cons_succ, List.setIfInBounds_toArray, List.set_cons_zero, List.set_cons_succ]
          refine wpAnyH_take (i := 13) (v := ?_) rfl (by kernel_rfl) (by kernel_rfl) (by kernel_rfl) (fun _ _ _ h => h) (Or.inr ⟨by rfl, ?_⟩) (by assumption) ?_
          rotate_left
          · rfl
          simp only [Act.put, List.getElem_toArray, List.getElem_cons_zero, List.getElem_cons_succ, List.setIfInBounds_toArray, List.set_cons_zero, List.set_cons_succ]
          refine wpAnyH_take (i := 14) (v := ?_) rfl (by kernel_rfl) (by kernel_rfl) (by kernel_rfl) (fun _ _ _ h => h) (Or.inr ⟨by rfl, ?_⟩) (by assumption) ?_
          rotate_left
          · rfl
          simp only [Act.put, List.getElem_toArray, List.getElem_cons_zero, List.getElem_cons_succ, List.setIfInBounds_toArray, List.set_cons_zero, List.set_cons_succ]
          refine wpAnyH_take (i := 15) (v := ?_) rfl (by kernel_rfl) (by kernel_rfl) (by kernel_rfl) (fun _ _ _ h => h) (Or.inr ⟨by rfl, ?_⟩) (by assumption) ?_
          rotate_left
          · rfl
          simp only [Act.put, List.getElem_toArray, List.getElem_cons_zero, List.getElem_cons_succ, List.setIfInBounds_toArray, List.set_cons_zero, List.set_cons_succ]
          refine wpAnyH_take (i := 16) (v := ?_) rfl (by kernel_rfl) (by kernel_rfl) (by kernel_rfl) (fun _ _ _ h => h) (Or.inr ⟨by rfl, ?_⟩) (by assumption) ?_
          rotate_left
          · rfl
          simp only [Act.put, List.getElem_toArray, List.getElem_cons_zero, List.getElem_cons_succ, List.setIfInBounds_toArray, List.set_cons_zero, List.set_cons_succ]
          refine wpAnyH_take (i := 17) (v := ?_) rfl (by kernel_rfl) (by kernel_rfl) (by kernel_rfl) (fun _ _ _ h => h) (Or.inl ⟨by rfl, ?_⟩) (by assumption) ?_
          rotate_left
          · (intro w hSw; (try dsimp only at hSw); go_simp) <;> with_reducible rfl
          simp only [Act.put, List.getElem_toArray, List.getElem_cons_zero, List.getElem_cons_succ, List.setIfInBounds_toArray, List.set_cons_zero, List.set_cons_succ]
          refine wpAnyH_done (by kernel_rfl) ?_ _
          gi_wp2_with fail
          refine noGoto_n ?_
          go_end0
          refine ⟨⟨_, rfl⟩, .inl ⟨s, HST.out s wr _ HY.out ⟨rfl, rfl, rfl, Nat.le_refl _, fun _ _ => rfl⟩, ?_⟩⟩
          have hns : ¬ Srt := fun e => by have := HDN.out.go e hful; cases this
          have := HSRT.out
          rw [HDN.out.none hns, allO, if_neg (this ▸ hns)]
        · have hd : decide ((pts.length : Int) < (L.length : Int)) = false := decide_eq_false (by omega)
          have hful2 : pts.length = L.length := by omega
          have HFU := hid_of hful2
          have HCL : Hid (Calls Tryd.prog 68 #[.slice ap pts.length capp] wr.drew fun e w' => ∃ v, e = .returned v ∧ w'.ownsRow wr.heap.size 3 1 v (pts.map (fun x => ((x : Nat) : Int))).length (encJ (pts.map (fun x => ((x : Nat) : Int)))) ∧ Below wr.heap.size wr.drew w') :=
            cloneI_calls (.slice ap pts.length capp) _ wr.drew (owns_intsR HI.out.lnp.own) (fun e => HI.out.nil (List.map_eq_nil_iff.1 e) (by rw [← hful2, List.map_eq_nil_iff.1 e]; rfl)) (by simp; omega)
          have HYY : Hid (∀ v6 w6, w6.ownsRow wr.heap.size 3 1 v6 (pts.map (fun x => ((x : Nat) : Int))).length (encJ (pts.map (fun x => ((x : Nat) : Int)))) → Below wr.heap.size wr.drew w6 → YieldAt Fence.wide (n - 1) Tryd.prog l #[v6] w6 fun e W2 => ∃ qb : Bool, e = .returned (.bool qb) ∧ Hid (
              (qb = true → ∃ s', cnt s' = cnt s ++ [pts] ∧ Y s' W2 ∧ (∀ k, foot s' k → foot s k ∨ wr.heap.size ≤ k) ∧ KeptF (fun k => k < wr.heap.size ∧ ¬ foot s k ∧ k ≠ l) wr W2) ∧ (qb = false → Ye W2))) := fun v6 w6 ho hB => by
            have e1 : encJ (pts.map (fun x => ((x : Nat) : Int))) = encN pts := by simp [encJ, encN]
            have hB' := below_of_drew' hB
            have hge : ∀ k, v6.ownBlock = some k → wr.heap.size ≤ k := fun k e => owns_ge ho e
            have hY6 : Y s w6 := HYB.out s wr w6 HI.out.lnp.ln.hN.2 HY.out hB'
            rw [e1, List.length_map, HFU.out] at ho
            obtain ⟨fn, tmps, assign, body, hy, hRR⟩ := HYI.out s pts v6 w6 hY6 (owns_lo ho (by have := HS.out.lo; have := HI.out.lnp.ln.hN; have := HS.out.t3; omega)) HFU.out (fun k e hk => by have := hge k e; have := HYF.out s wr k HY.out hk; omega) ⟨back L.length (pairsL L) pts, by have := HDN.out.now (HSRT.out ▸ line_sort HLow.out HI.out.ok HFU.out); rw [now_full hful] at this; rw [this, HALL.out]⟩
            refine ⟨fn, tmps, assign, body, hy, hRR.mono ?_⟩
            rintro e W2 ⟨qb, rfl, hq1, hq2⟩
            refine ⟨qb, rfl, fun e => ?_, hq2⟩
            obtain ⟨s', g1, g2, g3, g4⟩ := hq1 e
            refine ⟨s', g1, g2, fun k hk => ?_, ?_⟩
            · rcases g3 k hk with g | g | g
              · exact .inl g
              · exact .inr (hge k g)
              · exact .inr (Nat.le_trans hB'.size g)
            · refine ⟨g4.os.trans hB'.os, g4.tape.trans hB'.tape, g4.output.trans hB'.output, Nat.le_trans hB'.size g4.size, fun k hk => (g4.block k ⟨Nat.lt_of_lt_of_le hk.1 hB'.size, hk.2.1, fun e => ?_, hk.2.2⟩).trans (hB'.block k hk.1)⟩
              have := hge k e
              omega
          clear hful2
          gi_upto_region 7 with fail
          gi_cut [44] from 12 (fun t wx => ∃ qb : Bool, t = .bool (!qb) ∧ Hid ((qb = true → ∃ s', cnt s' = cnt s ++ [pts] ∧ Y s' wx ∧ (∀ k, foot s' k → foot s k ∨ wr.heap.size ≤ k) ∧ KeptF (fun k => k < wr.heap.size ∧ ¬ foot s k ∧ k ≠ l) wr wx) ∧ (qb = false → Ye wx)))
          case first =>
            gi_region_with (first
              | (refine ⟨trivial, ?_⟩; gi_at_call 30; refine (callsIn_wide.2 (Len_calls b c L _ (by first | exact hRr.drew | exact hRr))).mono ?_; rintro e w' ⟨rfl, hw'⟩; cases hw')
              | (refine ⟨trivial, ?_⟩; gi_at_call 68; refine (callsIn_wide.2 HCL.out).mono ?_; rintro e w6 ⟨v6, rfl, ho6, hB6⟩; obtain ⟨fn, tmps, assign, body, hy, hRR⟩ := HYY.out v6 w6 ho6 hB6)
              | (refine hRR.mono ?_; rintro e w7 ⟨qb, rfl, HQ7⟩))
            all_goals
              gi_wp2_with fail
              gi_meet
              exact ⟨qb, by cases qb <;> rfl, HQ7⟩
          case rest =>
            obtain ⟨qb, rfl, HQ7⟩ := hcut
            cases qb
            · gi_wp2_with fail
              try refine noGoto_n ?_
              go_end0
              exact ⟨⟨_, rfl⟩, .inr (HQ7.out.2 (by simp))⟩
            · obtain ⟨s', hc', hY', hf', hK'⟩ := HQ7.out.1 rfl
              have HI7 := hid_of (HI.out.yield HS.out hK' hf' (fun k hk => HYF.out s' _ k hY' hk))
              have HSS : Hid Srt := HSRT.out ▸ line_sort HLow.out HI.out.ok HFU.out
              have HC7 : Hid (cnt s' ++ back L.length (pairsL L) pts = all) := by
                have := HDN.out.now HSS.out
                rw [now_full hful] at this
                rw [Hid, hc', ← this, List.append_assoc]
                rfl
              have HCL' : Hid ((cnt s').length = (cnt s).length + 1) := by rw [Hid, hc']; simp
              have HY7 := hid_of hY'
              clear hc' hY' hf' hK' HQ7 HI HY HDN HNX HKP q3 k0 n0 hRr hNw hd hful HFU HCL HYY
              gi_wp2_with fail
              gi_loopg [5, 8] (L.length + 1) (fun k v5 v8 wr => ∃ (pts : List Nat) (vp : Value) (fr : Nat) (qz : Bool), v5 = .int .i64 ((fr : Nat) : Int) ∧ v8 = .bool qz ∧ Hid (fr ≤ L.length) ∧ Hid (pts.length + 1 ≤ k) ∧ Hid (Y s' wr) ∧ Hid (It (foot s0) (foot s') b c Bn N1 N0 ll bh wt t3 vs L vp pts wr) ∧ Hid ((qz = false → cnt s' ++ back L.length (pairsL L) pts = all) ∧ (qz = true → pts.length < L.length ∧ 0 ≤ fz ((wAll L.length (pairsL L) pts).drop fr) ∧ cnt s' ++ restF L.length (pairsL L) pts fr = all)))
              case atStart => exact ⟨pts, _, fr, false, rfl, rfl, HFR, by have := line_le HI7.out.ok; rw [Hid]; omega, HY7, HI7, fun _ => HC7.out, fun e => by cases e⟩
              case round =>
                clear HI7 HY7 HC7 HFR hptl
                obtain ⟨pts, vp, fr, qz, rfl, rfl, HFR, HKU, HY, HI, HU⟩ := hrel
                cases qz
                · have hlp := HI.out.lnp
                  obtain ⟨ap, capp, hvp⟩ := owns_len hlp.own
                  rw [List.length_map] at hvp
                  have q3 := HI.out.t3b.cell (j := 0) rfl
                  have k0 := hlp.ln.st.cell (j := 0) rfl
                  subst hvp
                  clear hlp
                  rcases List.eq_nil_or_concat pts with hpe | ⟨q, p, hpe⟩
                  · have HE := hid_of hpe
                    have hq0 : pts.length = 0 := by rw [hpe]; rfl
                    rw [hq0] at k0
                    clear hpe hq0
                    gi_wp2_with fail
                    try refine noGoto_n ?_
                    go_end0
                    refine ⟨⟨_, rfl⟩, .inl ⟨s', HST.out s' wr _ HY.out ⟨rfl, rfl, rfl, Nat.le_refl _, fun _ _ => rfl⟩, ?_⟩⟩
                    have := HU.out.1 (by simp)
                    rw [HE.out, back_nil, List.append_nil] at this
                    rw [this, HALL.out]
                  · have HE : Hid (pts = q ++ [p]) := by rw [Hid, hpe]; try simp
                    have hm0 : 0 < pts.length := by rw [HE.out]; simp
                    have hm1 : ¬ ((pts.length : Nat) : Int) = 0 := by omega
                    have hm2 : (((pts.length : Nat) : Int) == 0) = false := by rw [beq_eq_false_iff_ne]; exact hm1
                    have HIq : Hid (It (foot s0) (foot s') b c Bn N1 N0 ll bh wt t3 vs L (.slice ap pts.length capp) (q ++ [p]) wr) := by have := HI.out; rw [Hid]; rw [HE.out] at this ⊢; exact this
                    have HTK := hid_of (HIq.out.take HS.out)
                    have hpn : p < L.length := (HIq.out.ok.pre).2.1
                    clear hpe HI
                    gi_wp2_with (refine ⟨trivial, ?_⟩; first | (gi_at_call 69; refine (callsIn_wide.2 HTK.out).mono ?_; rintro e w8 ⟨rfl, ⟨vp8, hI8⟩, hK8⟩; obtain ⟨z8, qz8, hnf8, HNX8⟩ := nxt_form L q (p + 1); have hnx8 := hI8.next (f := p + 1) (by omega); rw [hnf8, show ((p + 1 : Nat) : Int) = (p : Int) + 1 from rfl] at hnx8; have HN8 := hid_of hnx8; clear hnx8 hnf8) | (gi_at_call 65; refine (callsIn_wide.2 HN8.out).mono ?_; rintro e w9 ⟨rfl, hB9⟩))
                    have HY9 : Hid (Y s' w9) := HYB.out s' w8 w9 hI8.lnp.ln.hN.2 (HST.out s' wr w8 HY.out hK8) hB9
                    gi_roundg (gk - 1)
                    case measure => have := HKU.out; omega
                    case rel =>
                      refine ⟨q, vp8, p + 1, qz8, by go_num, rfl, (show p + 1 ≤ L.length by omega), ?_, HY9, hI8.step hB9, fun e => ?_, fun e => ?_⟩
                      · have h1 := HKU.out
                        rw [HE.out, List.length_append, List.length_singleton] at h1
                        rw [Hid]
                        omega
                      · have h1 := HU.out.1 (by simp)
                        rw [HE.out, back_snoc, rest_none (HNX8.out.no e)] at h1
                        exact h1
                      · subst e
                        have h1 := HU.out.1 (by simp)
                        rw [HE.out, back_snoc] at h1
                        refine ⟨HNX8.out.pos hI8.ok, ?_, h1⟩
                        refine Classical.byContradiction fun hf => ?_
                        obtain ⟨p', _, e1, e2, e3, _⟩ := HNX8.out.yes rfl
                        exact fz_drop_none hf p' e1 e2 e3
                · obtain ⟨hlt, hgo, hrs⟩ := HU.out.2 rfl
                  gi_wp2_with fail
                  gi_roundg (K0 - 1)
                  case measure =>
                    have h1 := HK0.out
                    have h2 := HK.out
                    have h3 := HCL'.out
                    have h4 := congrArg List.length hrs
                    rw [List.length_append] at h4
                    omega
                  case rel =>
                    refine ⟨s', fr, pts, vp, rfl, HFR, HY, HI, fun _ => ?_, fun e => absurd HSS.out e, .inr hgo, ?_⟩
                    · rw [nowF, if_pos hlt]; exact hrs
                    · have h1 := HK0.out
                      have h2 := HK.out
                      have h3 := HCL'.out
                      rw [Hid]
                      omega
      · obtain ⟨p, hz, hfp, hp2, hp0, hpm⟩ := HNX.out.yes rfl
        subst hz
        have hlt := HNX.out.pos HI.out.ok
        have HPU := hid_of (HI.out.put HS.out hp2 hp0)
        have HN1 : Hid (Srt → cnt s ++ nowF L (pts ++ [p]) 0 = all) := fun e => by rw [← now_put hlt hp2 hfp hp0 hpm]; exact HDN.out.now e
        have HNN := hid_of HDN.out.none
        have q3 := HI.out.t3b.cell (j := 0) rfl
        clear hp0 hpm
        gi_wp2_with (refine ⟨trivial, ?_⟩; first | (gi_at_call 67; refine (callsIn_wide.2 HPU.out).mono ?_; rintro e w4 ⟨⟨r4, rfl⟩, ⟨vp4, hI4⟩, hK4⟩; obtain ⟨z4, qz4, hnf4, HNX4⟩ := nxt_form L (pts ++ [p]) 0; have hnx4 := hI4.next (f := 0) (Nat.zero_le _); rw [hnf4] at hnx4; have HN4 := hid_of hnx4; clear hnx4) | (gi_at_call 65; refine (callsIn_wide.2 HN4.out).mono ?_; rintro e w5 ⟨rfl, hB5⟩))
        have HY5 : Hid (Y s w5) := HYB.out s w4 w5 hI4.lnp.ln.hN.2 (HST.out s wr w4 HY.out hK4) hB5
        gi_roundg (gk - 1)
        case measure => have := HKP.out; omega
        case rel =>
          refine ⟨pts ++ [p], vp4, 0, z4, qz4, rfl, rfl, HNX4, ⟨HN1.out, HNN.out, fun e hl2 => HNX4.out.more HLow.out (HSRT.out ▸ e) hl2⟩, ?_, HY5, hI4.step hB5⟩
          have := HKP.out
          rw [Hid, List.length_append, List.length_singleton]
          omega
end Go.Proofs.YtmmgdeoballhpaaDoor
/- What the loop of package order's Extensions has in memory. -/
namespace Go.Proofs.YtmmgdeoballhpaaDoor
open Go.RowKit Go.Shelf Sx

/-- The lists that were handed on, where each lies, and the list of them. -/
structure ExS where
  os : List (List Nat)
  vs : List Value
  lv : Value
/-- The loop's own blocks: the bounds' box, the results' boxes, the list and its lists. -/
def ExS.foot (base t3 t4 t5 : Nat) (s : ExS) (k : Nat) : Prop := k = t3 ∨ k = t4 ∨ k = t5 ∨ (base ≤ k ∧ (s.lv.ownBlock = some k ∨ ∃ (i : Nat) (x : Value), s.vs[i]? = some x ∧ x.ownBlock = some k))
structure ExJ (base t3 t4 t5 : Nat) (most : Int) (s : ExS) (W : World) : Prop where
  b3 : Blk W t3 3 #[.int .i64 most]
  b4 : Blk W t4 25 #[s.lv]
  b5 : Blk W t5 4 #[.bool false]
  cl : ClR W base s.lv s.vs (s.os.map toI)
  ne : t3 ≠ t4 ∧ t3 ≠ t5 ∧ t4 ≠ t5
  lo : t3 < base ∧ t4 < base ∧ t5 < base
theorem ExJ.kept {base t3 t4 t5 : Nat} {most : Int} {s : ExS} {W W' : World} (h : ExJ base t3 t4 t5 most s W) (hk : KeptF (s.foot base t3 t4 t5) W W') : ExJ base t3 t4 t5 most s W' :=
  ⟨(hk.block _ (Or.inl rfl)).trans h.b3, (hk.block _ (Or.inr (Or.inl rfl))).trans h.b4, (hk.block _ (Or.inr (Or.inr (Or.inl rfl)))).trans h.b5,
    ⟨owns_keep h.cl.own (fun g e => hk.block g (Or.inr (Or.inr (Or.inr ⟨(h.cl.own.lt g e).1, Or.inl e⟩)))), h.cl.rows.keep (fun i x g hx hg => hk.block g (Or.inr (Or.inr (Or.inr ⟨(h.cl.rows.lt hx hg).1, Or.inr ⟨i, x, hx, hg⟩⟩))))⟩, h.ne, h.lo⟩
theorem ExJ.lt {base t3 t4 t5 : Nat} {most : Int} {s : ExS} {W : World} (h : ExJ base t3 t4 t5 most s W) {k : Nat} (hk : s.foot base t3 t4 t5 k) : k < W.heap.size := by
  rcases hk with rfl | rfl | rfl | ⟨_, hk | ⟨i, x, hx, hg⟩⟩
  · exact h.b3.lt
  · exact h.b4.lt
  · exact h.b5.lt
  · exact (h.cl.own.lt k hk).2
  · exact (h.cl.rows.lt hx hg).2
end Go.Proofs.YtmmgdeoballhpaaDoor
/- Of RefInter, what this seat can build. -/
namespace Go.Proofs.YtmmgdeoballhpaaDoor
open Go.RowKit Go.Shelf Sx

theorem hasF_nat (n : Nat) (F : Nat → Nat → Bool) (p q : Nat) : hasF n F ((p : Nat) : Int) ((q : Nat) : Int) = extF n F p q := by
  unfold hasF extF inR
  rw [Int.toNat_natCast, Int.toNat_natCast]
  congr 1
  · simp
  · congr 1
    simp
theorem fillF_put2 {G F0 : Nat → Nat → Bool} {m a b : Nat} {v : Bool} (h : G a b = v) : upd (fillF G F0 m a b) a b v = fillF G F0 m a (b + 1) := by
  rw [← h]
  exact fillF_put G F0
set_option maxRecDepth 100000 in
set_option maxHeartbeats 8000000 in
theorem refMinus_calls (lo lo2 n m N : Nat) (hn : n ≤ 256) (hm : m ≤ 256) (HN : Hid (N = max n m)) (x : Option Addr) (y z : Nat) (rb : Nat → Nat) (F : Nat → Nat → Bool) (x1 : Option Addr) (y1 z1 : Nat) (rb1 : Nat → Nat) (G : Nat → Nat → Bool) (w : World) (h : RefM lo w (.slice x y z) n n rb F) (h1 : RefM lo2 w (.slice x1 y1 z1) m m rb1 G) :
    Calls Tryd.prog 57 #[.agg #[.int .i64 ((n : Nat) : Int), .slice x y z], .agg #[.int .i64 ((m : Nat) : Int), .slice x1 y1 z1]] w fun e w' => ∃ M rb', e = .returned (.agg #[.int .i64 ((N : Nat) : Int), M]) ∧ RefM w.heap.size w' M N N rb' (fun p q => extF n F p q && !extF m G p q) ∧ Below w.heap.size w w' := by
  have hN : N ≤ 256 := by have := HN.out; omega
  have hnN : n ≤ N := by have := HN.out; omega
  have hmN : m ≤ N := by have := HN.out; omega
  go_enter Tryd.func57, Tryd.ntmps57
  go_wp2_with fail
  refine (refWide_at lo n hn x y z rb F m N hm HN _ (((h.alloc _).alloc _).alloc _)).mono ?_
  rintro e w1 ⟨M, rbw, rfl, hRM, hB1⟩
  obtain ⟨x2, y2, z2, rfl⟩ := hRM.slice
  have hA : MkAt w (w1.alloc (.cells #[.int .i64 ((N : Nat) : Int), .slice x2 y2 z2] 46)) 3 [(0, #[.int .i64 ((n : Nat) : Int), .slice x y z]), (1, #[.int .i64 ((m : Nat) : Int), .slice x1 y1 z1]), (2, #[.int .i64 0, .slice none 0 0])] w1.heap.size N (.slice x2 y2 z2) rbw (fillF (fun p q => extF n F p q && !extF m G p q) (extF n F) N 0 0) := by
    refine MkAt.begin ((((Below.refl _ w).alloc (Nat.le_refl _) _).alloc (by simp) _).alloc (by simp; omega) _) (by simp) ?_ (hRM.congr fun p q hp hq => ?_) hB1
    · intro x hx
      simp only [List.mem_cons, List.not_mem_nil, or_false] at hx
      rcases hx with rfl | rfl | rfl
      · exact ⟨by omega, ((Blk.new w _ _).alloc _).alloc _⟩
      · exact ⟨by omega, (Blk.new2 w _ _ _).alloc _⟩
      · exact ⟨by omega, Blk.new3 w _ _ _ _⟩
    · rw [fillF_zero, fill_ext]
  clear hRM hB1
  go_wp2_with fail
  generalize w1.heap.size = B at *
  go_loopw [6] (fun i wr => ∃ a, a ≤ N ∧ i = .int .i64 ((a : Nat) : Int) ∧ MkAt w wr 3 [(0, #[.int .i64 ((n : Nat) : Int), .slice x y z]), (1, #[.int .i64 ((m : Nat) : Int), .slice x1 y1 z1]), (2, #[.int .i64 0, .slice none 0 0])] B N (.slice x2 y2 z2) rbw (fillF (fun p q => extF n F p q && !extF m G p q) (extF n F) N a 0)) (fun i _ => N - (intOf i).toNat)
  case atStart => exact ⟨0, by omega, rfl, hA⟩
  case round =>
    clear hA
    obtain ⟨a, ha, rfl, hA⟩ := hrel
    (try dsimp only at hA)
    have c0 := hA.box.cell (j := 0) rfl
    by_cases hlt : a < N
    · go_wp2_with fail
      clear c0
      go_loopw [7] (fun i wr => ∃ b, b ≤ N ∧ i = .int .i64 ((b : Nat) : Int) ∧ MkAt w wr 3 [(0, #[.int .i64 ((n : Nat) : Int), .slice x y z]), (1, #[.int .i64 ((m : Nat) : Int), .slice x1 y1 z1]), (2, #[.int .i64 0, .slice none 0 0])] B N (.slice x2 y2 z2) rbw (fillF (fun p q => extF n F p q && !extF m G p q) (extF n F) N a b)) (fun i _ => N - (intOf i).toNat)
      case atStart => exact ⟨0, by omega, rfl, hA⟩
      case round =>
        clear hA
        obtain ⟨b, hb, rfl, hA⟩ := hrel
        (try dsimp only at hA)
        have c0 := hA.box.cell (j := 0) rfl
        by_cases hlt2 : b < N
        · skip
          have d1 := hA.box.cell (j := 1) rfl
          have c2 := hA.snd.cell (j := 1) rfl
          obtain ⟨g2, cap2, e2, q2, _, n2, s0, s1, fz, q3⟩ := hA.ref.at_ (p := a) (q := b) (by omega) (by omega)
          cases e2
          rw [fillF_at] at s1
          have haN : a < N := by omega
          have hbN : b < N := by omega
          cases hv : extF n F a b
          · rw [hv] at s1
            have hA2 := (hA.drew.put (p := a) (q := b) (by omega) (by omega) false).congr (G := fillF (fun p q => extF n F p q && !extF m G p q) (extF n F) N a (b + 1)) (fun p q _ _ => congrFun (congrFun (fillF_put2 (G := fun p q => extF n F p q && !extF m G p q) (by rw [hv, Bool.false_and])) p) q)
            go_wp2_with fail
            go_region
            all_goals
              go_wp2_with fail
              refine ⟨⟨b + 1, by omega, by go_num, hA2⟩, by simp [intOf]; omega⟩
          · rw [hv] at s1
            go_wp2_with fail
            generalize hA0 : Act.mk _ _ = a0
            have hsz : a0.tmps.size = 47 := by rw [← hA0]; rfl
            have b5 : Act.eval a0 (.tmp 5) = pv B := by rw [← hA0]; rfl
            have b6 : Act.eval a0 (.tmp 6) = .int .i64 ((a : Nat) : Int) := by rw [← hA0]; rfl
            have b7 : Act.eval a0 (.tmp 7) = .int .i64 ((b : Nat) : Int) := by rw [← hA0]; rfl
            have b3 : Act.eval a0 (.tmp 3) = pv (w.heap.size + 1) := by rw [← hA0]; rfl
            refine wp_region_held_drew (S := (fun W' => ∃ F', MkAt w W' 3 [(0, #[.int .i64 ((n : Nat) : Int), .slice x y z]), (1, #[.int .i64 ((m : Nat) : Int), .slice x1 y1 z1]), (2, #[.int .i64 0, .slice none 0 0])] B N (.slice (some ⟨g2, 0, none⟩) N z2) rbw F')) (by kernel_rfl) ⟨_, hA.drew⟩ (fun hS => ?_)
            refine anyS_take (i := 0) (d := some 24) (v := .pointer (some ⟨B, 1, none⟩)) hS rfl rfl (by kernel_rfl) (by kernel_rfl) (by kernel_rfl) (fun _ _ _ h => h) (by rfl) ?_ ?_
            · intro w9 hSw
              have e5 := b5
              have ec : ∀ v, Act.eval a0 (.const v) = v := fun _ => rfl
              have ef : ∀ f, Act.eval a0 (.func f) = .func (.func f) #[] #[] := fun _ => rfl
              generalize Act.eval a0 = ρ at *
              simp only [List.getElem_toArray, List.getElem_cons_zero]
              clear hSw
              go_simp
            refine anyS_take (i := 1) (d := some 25) (v := .slice (some ⟨g2, 0, none⟩) N z2) hS rfl rfl (by kernel_rfl) (by kernel_rfl) (by kernel_rfl) (fun _ _ _ h => h) (by rfl) ?_ ?_
            · intro w9 hSw
              have e24 : Act.eval (a0.put (some 24) (.pointer (some ⟨B, 1, none⟩))) (.tmp 24) = .pointer (some ⟨B, 1, none⟩) := by rw [Act.eval_put_same _ _ _ (by (repeat rw [Act.size_put]); omega)]
              have ec : ∀ v, Act.eval (a0.put (some 24) (.pointer (some ⟨B, 1, none⟩))) (.const v) = v := fun _ => rfl
              have ef : ∀ f, Act.eval (a0.put (some 24) (.pointer (some ⟨B, 1, none⟩))) (.func f) = .func (.func f) #[] #[] := fun _ => rfl
              generalize Act.eval (a0.put (some 24) (.pointer (some ⟨B, 1, none⟩))) = ρ at *
              simp only [List.getElem_toArray, List.getElem_cons_zero, List.getElem_cons_succ]
              obtain ⟨F9, hA9⟩ := hSw
              have d9 := hA9.box.cell (j := 1) rfl
              go_simp
            refine anyS_take (i := 2) (d := some 26) (v := .int .i64 ((a : Nat) : Int)) hS rfl rfl (by kernel_rfl) (by kernel_rfl) (by kernel_rfl) (fun _ _ _ h => h) (by rfl) ?_ ?_
            · intro w9 hSw
              have e6 : Act.eval ((a0.put (some 24) (.pointer (some ⟨B, 1, none⟩))).put (some 25) (.slice (some ⟨g2, 0, none⟩) N z2)) (.tmp 6) = .int .i64 ((a : Nat) : Int) := by rw [Act.eval_put_ne _ _ _ _ (by decide), Act.eval_put_ne _ _ _ _ (by decide), b6]
              have ec : ∀ v, Act.eval ((a0.put (some 24) (.pointer (some ⟨B, 1, none⟩))).put (some 25) (.slice (some ⟨g2, 0, none⟩) N z2)) (.const v) = v := fun _ => rfl
              have ef : ∀ f, Act.eval ((a0.put (some 24) (.pointer (some ⟨B, 1, none⟩))).put (some 25) (.slice (some ⟨g2, 0, none⟩) N z2)) (.func f) = .func (.func f) #[] #[] := fun _ => rfl
              generalize Act.eval ((a0.put (some 24) (.pointer (some ⟨B, 1, none⟩))).put (some 25) (.slice (some ⟨g2, 0, none⟩) N z2)) = ρ at *
              simp only [List.getElem_toArray, List.getElem_cons_zero, List.getElem_cons_succ]
              clear hSw
              go_simp
            refine anyS_take (i := 3) (d := some 27) (v := .pointer (some ⟨g2, a, none⟩)) hS rfl rfl (by kernel_rfl) (by kernel_rfl) (by kernel_rfl) (fun _ _ _ h => h) (by rfl) ?_ ?_
            · intro w9 hSw
              have e25 : Act.eval (((a0.put (some 24) (.pointer (some ⟨B, 1, none⟩))).put (some 25) (.slice (some ⟨g2, 0, none⟩) N z2)).put (some 26) (.int .i64 ((a : Nat) : Int))) (.tmp 25) = .slice (some ⟨g2, 0, none⟩) N z2 := by rw [Act.eval_put_ne _ _ _ _ (by decide), Act.eval_put_same _ _ _ (by (repeat rw [Act.size_put]); omega)]
              have e26 : Act.eval (((a0.put (some 24) (.pointer (some ⟨B, 1, none⟩))).put (some 25) (.slice (some ⟨g2, 0, none⟩) N z2)).put (some 26) (.int .i64 ((a : Nat) : Int))) (.tmp 26) = .int .i64 ((a : Nat) : Int) := by rw [Act.eval_put_same _ _ _ (by (repeat rw [Act.size_put]); omega)]
              have ec : ∀ v, Act.eval (((a0.put (some 24) (.pointer (some ⟨B, 1, none⟩))).put (some 25) (.slice (some ⟨g2, 0, none⟩) N z2)).put (some 26) (.int .i64 ((a : Nat) : Int))) (.const v) = v := fun _ => rfl
              have ef : ∀ f, Act.eval (((a0.put (some 24) (.pointer (some ⟨B, 1, none⟩))).put (some 25) (.slice (some ⟨g2, 0, none⟩) N z2)).put (some 26) (.int .i64 ((a : Nat) : Int))) (.func f) = .func (.func f) #[] #[] := fun _ => rfl
              generalize Act.eval (((a0.put (some 24) (.pointer (some ⟨B, 1, none⟩))).put (some 25) (.slice (some ⟨g2, 0, none⟩) N z2)).put (some 26) (.int .i64 ((a : Nat) : Int))) = ρ at *
              simp only [List.getElem_toArray, List.getElem_cons_zero, List.getElem_cons_succ]
              clear hSw
              go_simp
            refine anyS_take (i := 4) (d := some 28) (v := hdr N (rbw a)) hS rfl rfl (by kernel_rfl) (by kernel_rfl) (by kernel_rfl) (fun _ _ _ h => h) (by rfl) ?_ ?_
            · intro w9 hSw
              have e27 : Act.eval ((((a0.put (some 24) (.pointer (some ⟨B, 1, none⟩))).put (some 25) (.slice (some ⟨g2, 0, none⟩) N z2)).put (some 26) (.int .i64 ((a : Nat) : Int))).put (some 27) (.pointer (some ⟨g2, a, none⟩))) (.tmp 27) = .pointer (some ⟨g2, a, none⟩) := by rw [Act.eval_put_same _ _ _ (by (repeat rw [Act.size_put]); omega)]
              have ec : ∀ v, Act.eval ((((a0.put (some 24) (.pointer (some ⟨B, 1, none⟩))).put (some 25) (.slice (some ⟨g2, 0, none⟩) N z2)).put (some 26) (.int .i64 ((a : Nat) : Int))).put (some 27) (.pointer (some ⟨g2, a, none⟩))) (.const v) = v := fun _ => rfl
              have ef : ∀ f, Act.eval ((((a0.put (some 24) (.pointer (some ⟨B, 1, none⟩))).put (some 25) (.slice (some ⟨g2, 0, none⟩) N z2)).put (some 26) (.int .i64 ((a : Nat) : Int))).put (some 27) (.pointer (some ⟨g2, a, none⟩))) (.func f) = .func (.func f) #[] #[] := fun _ => rfl
              generalize Act.eval ((((a0.put (some 24) (.pointer (some ⟨B, 1, none⟩))).put (some 25) (.slice (some ⟨g2, 0, none⟩) N z2)).put (some 26) (.int .i64 ((a : Nat) : Int))).put (some 27) (.pointer (some ⟨g2, a, none⟩))) = ρ at *
              simp only [List.getElem_toArray, List.getElem_cons_zero, List.getElem_cons_succ]
              obtain ⟨F9, hA9⟩ := hSw
              obtain ⟨g9, cap9, e9, _, _, _, s9, _, _, _⟩ := hA9.ref.at_ (p := a) (q := b) haN hbN
              cases e9
              go_simp
            refine anyS_take (i := 5) (d := some 29) (v := .int .i64 ((b : Nat) : Int)) hS rfl rfl (by kernel_rfl) (by kernel_rfl) (by kernel_rfl) (fun _ _ _ h => h) (by rfl) ?_ ?_
            · intro w9 hSw
              have e7 : Act.eval (((((a0.put (some 24) (.pointer (some ⟨B, 1, none⟩))).put (some 25) (.slice (some ⟨g2, 0, none⟩) N z2)).put (some 26) (.int .i64 ((a : Nat) : Int))).put (some 27) (.pointer (some ⟨g2, a, none⟩))).put (some 28) (hdr N (rbw a))) (.tmp 7) = .int .i64 ((b : Nat) : Int) := by rw [Act.eval_put_ne _ _ _ _ (by decide), Act.eval_put_ne _ _ _ _ (by decide), Act.eval_put_ne _ _ _ _ (by decide), Act.eval_put_ne _ _ _ _ (by decide), Act.eval_put_ne _ _ _ _ (by decide), b7]
              have ec : ∀ v, Act.eval (((((a0.put (some 24) (.pointer (some ⟨B, 1, none⟩))).put (some 25) (.slice (some ⟨g2, 0, none⟩) N z2)).put (some 26) (.int .i64 ((a : Nat) : Int))).put (some 27) (.pointer (some ⟨g2, a, none⟩))).put (some 28) (hdr N (rbw a))) (.const v) = v := fun _ => rfl
              have ef : ∀ f, Act.eval (((((a0.put (some 24) (.pointer (some ⟨B, 1, none⟩))).put (some 25) (.slice (some ⟨g2, 0, none⟩) N z2)).put (some 26) (.int .i64 ((a : Nat) : Int))).put (some 27) (.pointer (some ⟨g2, a, none⟩))).put (some 28) (hdr N (rbw a))) (.func f) = .func (.func f) #[] #[] := fun _ => rfl
              generalize Act.eval (((((a0.put (some 24) (.pointer (some ⟨B, 1, none⟩))).put (some 25) (.slice (some ⟨g2, 0, none⟩) N z2)).put (some 26) (.int .i64 ((a : Nat) : Int))).put (some 27) (.pointer (some ⟨g2, a, none⟩))).put (some 28) (hdr N (rbw a))) = ρ at *
              simp only [List.getElem_toArray, List.getElem_cons_zero, List.getElem_cons_succ]
              clear hSw
              go_simp
            refine anyS_take (i := 6) (d := some 30) (v := .pointer (some ⟨B, 1, none⟩)) hS rfl rfl (by kernel_rfl) (by kernel_rfl) (by kernel_rfl) (fun _ _ _ h => h) (by rfl) ?_ ?_
            · intro w9 hSw
              have e5 : Act.eval ((((((a0.put (some 24) (.pointer (some ⟨B, 1, none⟩))).put (some 25) (.slice (some ⟨g2, 0, none⟩) N z2)).put (some 26) (.int .i64 ((a : Nat) : Int))).put (some 27) (.pointer (some ⟨g2, a, none⟩))).put (some 28) (hdr N (rbw a))).put (some 29) (.int .i64 ((b : Nat) : Int))) (.tmp 5) = pv B := by rw [Act.eval_put_ne _ _ _ _ (by decide), Act.eval_put_ne _ _ _ _ (by decide), Act.eval_put_ne _ _ _ _ (by decide), Act.eval_put_ne _ _ _ _ (by decide), Act.eval_put_ne _ _ _ _ (by decide), Act.eval_put_ne _ _ _ _ (by decide), b5]
              have ec : ∀ v, Act.eval ((((((a0.put (some 24) (.pointer (some ⟨B, 1, none⟩))).put (some 25) (.slice (some ⟨g2, 0, none⟩) N z2)).put (some 26) (.int .i64 ((a : Nat) : Int))).put (some 27) (.pointer (some ⟨g2, a, none⟩))).put (some 28) (hdr N (rbw a))).put (some 29) (.int .i64 ((b : Nat) : Int))) (.const v) = v := fun _ => rfl
              have ef : ∀ f, Act.eval ((((((a0.put (some 24) (.pointer (some ⟨B, 1, none⟩))).put (some 25) (.slice (some ⟨g2, 0, none⟩) N z2)).put (some 26) (.int .i64 ((a : Nat) : Int))).put (some 27) (.pointer (some ⟨g2, a, none⟩))).put (some 28) (hdr N (rbw a))).put (some 29) (.int .i64 ((b : Nat) : Int))) (.func f) = .func (.func f) #[] #[] := fun _ => rfl
              generalize Act.eval ((((((a0.put (some 24) (.pointer (some ⟨B, 1, none⟩))).put (some 25) (.slice (some ⟨g2, 0, none⟩) N z2)).put (some 26) (.int .i64 ((a : Nat) : Int))).put (some 27) (.pointer (some ⟨g2, a, none⟩))).put (some 28) (hdr N (rbw a))).put (some 29) (.int .i64 ((b : Nat) : Int))) = ρ at *
              simp only [List.getElem_toArray, List.getElem_cons_zero, List.getElem_cons_succ]
              clear hSw
              go_simp
            refine anyS_take (i := 7) (d := some 31) (v := .slice (some ⟨g2, 0, none⟩) N z2) hS rfl rfl (by kernel_rfl) (by kernel_rfl) (by kernel_rfl) (fun _ _ _ h => h) (by rfl) ?_ ?_
            · intro w9 hSw
              have e30 : Act.eval (((((((a0.put (some 24) (.pointer (some ⟨B, 1, none⟩))).put (some 25) (.slice (some ⟨g2, 0, none⟩) N z2)).put (some 26) (.int .i64 ((a : Nat) : Int))).put (some 27) (.pointer (some ⟨g2, a, none⟩))).put (some 28) (hdr N (rbw a))).put (some 29) (.int .i64 ((b : Nat) : Int))).put (some 30) (.pointer (some ⟨B, 1, none⟩))) (.tmp 30) = .pointer (some ⟨B, 1, none⟩) := by rw [Act.eval_put_same _ _ _ (by (repeat rw [Act.size_put]); omega)]
              have ec : ∀ v, Act.eval (((((((a0.put (some 24) (.pointer (some ⟨B, 1, none⟩))).put (some 25) (.slice (some ⟨g2, 0, none⟩) N z2)).put (some 26) (.int .i64 ((a : Nat) : Int))).put (some 27) (.pointer (some ⟨g2, a, none⟩))).put (some 28) (hdr N (rbw a))).put (some 29) (.int .i64 ((b : Nat) : Int))).put (some 30) (.pointer (some ⟨B, 1, none⟩))) (.const v) = v := fun _ => rfl
              have ef : ∀ f, Act.eval (((((((a0.put (some 24) (.pointer (some ⟨B, 1, none⟩))).put (some 25) (.slice (some ⟨g2, 0, none⟩) N z2)).put (some 26) (.int .i64 ((a : Nat) : Int))).put (some 27) (.pointer (some ⟨g2, a, none⟩))).put (some 28) (hdr N (rbw a))).put (some 29) (.int .i64 ((b : Nat) : Int))).put (some 30) (.pointer (some ⟨B, 1, none⟩))) (.func f) = .func (.func f) #[] #[] := fun _ => rfl
              generalize Act.eval (((((((a0.put (some 24) (.pointer (some ⟨B, 1, none⟩))).put (some 25) (.slice (some ⟨g2, 0, none⟩) N z2)).put (some 26) (.int .i64 ((a : Nat) : Int))).put (some 27) (.pointer (some ⟨g2, a, none⟩))).put (some 28) (hdr N (rbw a))).put (some 29) (.int .i64 ((b : Nat) : Int))).put (some 30) (.pointer (some ⟨B, 1, none⟩))) = ρ at *
              simp only [List.getElem_toArray, List.getElem_cons_zero, List.getElem_cons_succ]
              obtain ⟨F9, hA9⟩ := hSw
              have d9 := hA9.box.cell (j := 1) rfl
              go_simp
            refine anyS_take (i := 8) (d := some 32) (v := .int .i64 ((a : Nat) : Int)) hS rfl rfl (by kernel_rfl) (by kernel_rfl) (by kernel_rfl) (fun _ _ _ h => h) (by rfl) ?_ ?_
            · intro w9 hSw
              have e6 : Act.eval ((((((((a0.put (some 24) (.pointer (some ⟨B, 1, none⟩))).put (some 25) (.slice (some ⟨g2, 0, none⟩) N z2)).put (some 26) (.int .i64 ((a : Nat) : Int))).put (some 27) (.pointer (some ⟨g2, a, none⟩))).put (some 28) (hdr N (rbw a))).put (some 29) (.int .i64 ((b : Nat) : Int))).put (some 30) (.pointer (some ⟨B, 1, none⟩))).put (some 31) (.slice (some ⟨g2, 0, none⟩) N z2)) (.tmp 6) = .int .i64 ((a : Nat) : Int) := by rw [Act.eval_put_ne _ _ _ _ (by decide), Act.eval_put_ne _ _ _ _ (by decide), Act.eval_put_ne _ _ _ _ (by decide), Act.eval_put_ne _ _ _ _ (by decide), Act.eval_put_ne _ _ _ _ (by decide), Act.eval_put_ne _ _ _ _ (by decide), Act.eval_put_ne _ _ _ _ (by decide), Act.eval_put_ne _ _ _ _ (by decide), b6]
              have ec : ∀ v, Act.eval ((((((((a0.put (some 24) (.pointer (some ⟨B, 1, none⟩))).put (some 25) (.slice (some ⟨g2, 0, none⟩) N z2)).put (some 26) (.int .i64 ((a : Nat) : Int))).put (some 27) (.pointer (some ⟨g2, a, none⟩))).put (some 28) (hdr N (rbw a))).put (some 29) (.int .i64 ((b : Nat) : Int))).put (some 30) (.pointer (some ⟨B, 1, none⟩))).put (some 31) (.slice (some ⟨g2, 0, none⟩) N z2)) (.const v) = v := fun _ => rfl
              have ef : ∀ f, Act.eval ((((((((a0.put (some 24) (.pointer (some ⟨B, 1, none⟩))).put (some 25) (.slice (some ⟨g2, 0, none⟩) N z2)).put (some 26) (.int .i64 ((a : Nat) : Int))).put (some 27) (.pointer (some ⟨g2, a, none⟩))).put (some 28) (hdr N (rbw a))).put (some 29) (.int .i64 ((b : Nat) : Int))).put (some 30) (.pointer (some ⟨B, 1, none⟩))).put (some 31) (.slice (some ⟨g2, 0, none⟩) N z2)) (.func f) = .func (.func f) #[] #[] := fun _ => rfl
              generalize Act.eval ((((((((a0.put (some 24) (.pointer (some ⟨B, 1, none⟩))).put (some 25) (.slice (some ⟨g2, 0, none⟩) N z2)).put (some 26) (.int .i64 ((a : Nat) : Int))).put (some 27) (.pointer (some ⟨g2, a, none⟩))).put (some 28) (hdr N (rbw a))).put (some 29) (.int .i64 ((b : Nat) : Int))).put (some 30) (.pointer (some ⟨B, 1, none⟩))).put (some 31) (.slice (some ⟨g2, 0, none⟩) N z2)) = ρ at *
              simp only [List.getElem_toArray, List.getElem_cons_zero, List.getElem_cons_succ]
              clear hSw
              go_simp
            refine anyS_take (i := 9) (d := some 33) (v := .pointer (some ⟨g2, a, none⟩)) hS rfl rfl (by kernel_rfl) (by kernel_rfl) (by kernel_rfl) (fun _ _ _ h => h) (by rfl) ?_ ?_
            · intro w9 hSw
              have e31 : Act.eval (((((((((a0.put (some 24) (.pointer (some ⟨B, 1, none⟩))).put (some 25) (.slice (some ⟨g2, 0, none⟩) N z2)).put (some 26) (.int .i64 ((a : Nat) : Int))).put (some 27) (.pointer (some ⟨g2, a, none⟩))).put (some 28) (hdr N (rbw a))).put (some 29) (.int .i64 ((b : Nat) : Int))).put (some 30) (.pointer (some ⟨B, 1, none⟩))).put (some 31) (.slice (some ⟨g2, 0, none⟩) N z2)).put (some 32) (.int .i64 ((a : Nat) : Int))) (.tmp 31) = .slice (some ⟨g2, 0, none⟩) N z2 := by rw [Act.eval_put_ne _ _ _ _ (by decide), Act.eval_put_same _ _ _ (by (repeat rw [Act.size_put]); omega)]
              have e32 : Act.eval (((((((((a0.put (some 24) (.pointer (some ⟨B, 1, none⟩))).put (some 25) (.slice (some ⟨g2, 0, none⟩) N z2)).put (some 26) (.int .i64 ((a : Nat) : Int))).put (some 27) (.pointer (some ⟨g2, a, none⟩))).put (some 28) (hdr N (rbw a))).put (some 29) (.int .i64 ((b : Nat) : Int))).put (some 30) (.pointer (some ⟨B, 1, none⟩))).put (some 31) (.slice (some ⟨g2, 0, none⟩) N z2)).put (some 32) (.int .i64 ((a : Nat) : Int))) (.tmp 32) = .int .i64 ((a : Nat) : Int) := by rw [Act.eval_put_same _ _ _ (by (repeat rw [Act.size_put]); omega)]
              have ec : ∀ v, Act.eval (((((((((a0.put (some 24) (.pointer (some ⟨B, 1, none⟩))).put (some 25) (.slice (some ⟨g2, 0, none⟩) N z2)).put (some 26) (.int .i64 ((a : Nat) : Int))).put (some 27) (.pointer (some ⟨g2, a, none⟩))).put (some 28) (hdr N (rbw a))).put (some 29) (.int .i64 ((b : Nat) : Int))).put (some 30) (.pointer (some ⟨B, 1, none⟩))).put (some 31) (.slice (some ⟨g2, 0, none⟩) N z2)).put (some 32) (.int .i64 ((a : Nat) : Int))) (.const v) = v := fun _ => rfl
              have ef : ∀ f, Act.eval (((((((((a0.put (some 24) (.pointer (some ⟨B, 1, none⟩))).put (some 25) (.slice (some ⟨g2, 0, none⟩) N z2)).put (some 26) (.int .i64 ((a : Nat) : Int))).put (some 27) (.pointer (some ⟨g2, a, none⟩))).put (some 28) (hdr N (rbw a))).put (some 29) (.int .i64 ((b : Nat) : Int))).put (some 30) (.pointer (some ⟨B, 1, none⟩))).put (some 31) (.slice (some ⟨g2, 0, none⟩) N z2)).put (some 32) (.int .i64 ((a : Nat) : Int))) (.func f) = .func (.func f) #[] #[] := fun _ => rfl
              generalize Act.eval (((((((((a0.put (some 24) (.pointer (some ⟨B, 1, none⟩))).put (some 25) (.slice (some ⟨g2, 0, none⟩) N z2)).put (some 26) (.int .i64 ((a : Nat) : Int))).put (some 27) (.pointer (some ⟨g2, a, none⟩))).put (some 28) (hdr N (rbw a))).put (some 29) (.int .i64 ((b : Nat) : Int))).put (some 30) (.pointer (some ⟨B, 1, none⟩))).put (some 31) (.slice (some ⟨g2, 0, none⟩) N z2)).put (some 32) (.int .i64 ((a : Nat) : Int))) = ρ at *
              simp only [List.getElem_toArray, List.getElem_cons_zero, List.getElem_cons_succ]
              clear hSw
              go_simp
            refine anyS_take (i := 10) (d := some 34) (v := hdr N (rbw a)) hS rfl rfl (by kernel_rfl) (by kernel_rfl) (by kernel_rfl) (fun _ _ _ h => h) (by rfl) ?_ ?_
            · intro w9 hSw
              have e33 : Act.eval ((((((((((a0.put (some 24) (.pointer (some ⟨B, 1, none⟩))).put (some 25) (.slice (some ⟨g2, 0, none⟩) N z2)).put (some 26) (.int .i64 ((a : Nat) : Int))).put (some 27) (.pointer (some ⟨g2, a, none⟩))).put (some 28) (hdr N (rbw a))).put (some 29) (.int .i64 ((b : Nat) : Int))).put (some 30) (.pointer (some ⟨B, 1, none⟩))).put (some 31) (.slice (some ⟨g2, 0, none⟩) N z2)).put (some 32) (.int .i64 ((a : Nat) : Int))).put (some 33) (.pointer (some ⟨g2, a, none⟩))) (.tmp 33) = .pointer (some ⟨g2, a, none⟩) := by rw [Act.eval_put_same _ _ _ (by (repeat rw [Act.size_put]); omega)]
              have ec : ∀ v, Act.eval ((((((((((a0.put (some 24) (.pointer (some ⟨B, 1, none⟩))).put (some 25) (.slice (some ⟨g2, 0, none⟩) N z2)).put (some 26) (.int .i64 ((a : Nat) : Int))).put (some 27) (.pointer (some ⟨g2, a, none⟩))).put (some 28) (hdr N (rbw a))).put (some 29) (.int .i64 ((b : Nat) : Int))).put (some 30) (.pointer (some ⟨B, 1, none⟩))).put (some 31) (.slice (some ⟨g2, 0, none⟩) N z2)).put (some 32) (.int .i64 ((a : Nat) : Int))).put (some 33) (.pointer (some ⟨g2, a, none⟩))) (.const v) = v := fun _ => rfl
              have ef : ∀ f, Act.eval ((((((((((a0.put (some 24) (.pointer (some ⟨B, 1, none⟩))).put (some 25) (.slice (some ⟨g2, 0, none⟩) N z2)).put (some 26) (.int .i64 ((a : Nat) : Int))).put (some 27) (.pointer (some ⟨g2, a, none⟩))).put (some 28) (hdr N (rbw a))).put (some 29) (.int .i64 ((b : Nat) : Int))).put (some 30) (.pointer (some ⟨B, 1, none⟩))).put (some 31) (.slice (some ⟨g2, 0, none⟩) N z2)).put (some 32) (.int .i64 ((a : Nat) : Int))).put (some 33) (.pointer (some ⟨g2, a, none⟩))) (.func f) = .func (.func f) #[] #[] := fun _ => rfl
              generalize Act.eval ((((((((((a0.put (some 24) (.pointer (some ⟨B, 1, none⟩))).put (some 25) (.slice (some ⟨g2, 0, none⟩) N z2)).put (some 26) (.int .i64 ((a : Nat) : Int))).put (some 27) (.pointer (some ⟨g2, a, none⟩))).put (some 28) (hdr N (rbw a))).put (some 29) (.int .i64 ((b : Nat) : Int))).put (some 30) (.pointer (some ⟨B, 1, none⟩))).put (some 31) (.slice (some ⟨g2, 0, none⟩) N z2)).put (some 32) (.int .i64 ((a : Nat) : Int))).put (some 33) (.pointer (some ⟨g2, a, none⟩))) = ρ at *
              simp only [List.getElem_toArray, List.getElem_cons_zero, List.getElem_cons_succ]
              obtain ⟨F9, hA9⟩ := hSw
              obtain ⟨g9, cap9, e9, _, _, _, s9, _, _, _⟩ := hA9.ref.at_ (p := a) (q := b) haN hbN
              cases e9
              go_simp
            refine anyS_take (i := 11) (d := some 35) (v := .int .i64 ((b : Nat) : Int)) hS rfl rfl (by kernel_rfl) (by kernel_rfl) (by kernel_rfl) (fun _ _ _ h => h) (by rfl) ?_ ?_
            · intro w9 hSw
              have e7 : Act.eval (((((((((((a0.put (some 24) (.pointer (some ⟨B, 1, none⟩))).put (some 25) (.slice (some ⟨g2, 0, none⟩) N z2)).put (some 26) (.int .i64 ((a : Nat) : Int))).put (some 27) (.pointer (some ⟨g2, a, none⟩))).put (some 28) (hdr N (rbw a))).put (some 29) (.int .i64 ((b : Nat) : Int))).put (some 30) (.pointer (some ⟨B, 1, none⟩))).put (some 31) (.slice (some ⟨g2, 0, none⟩) N z2)).put (some 32) (.int .i64 ((a : Nat) : Int))).put (some 33) (.pointer (some ⟨g2, a, none⟩))).put (some 34) (hdr N (rbw a))) (.tmp 7) = .int .i64 ((b : Nat) : Int) := by rw [Act.eval_put_ne _ _ _ _ (by decide), Act.eval_put_ne _ _ _ _ (by decide), Act.eval_put_ne _ _ _ _ (by decide), Act.eval_put_ne _ _ _ _ (by decide), Act.eval_put_ne _ _ _ _ (by decide), Act.eval_put_ne _ _ _ _ (by decide), Act.eval_put_ne _ _ _ _ (by decide), Act.eval_put_ne _ _ _ _ (by decide), Act.eval_put_ne _ _ _ _ (by decide), Act.eval_put_ne _ _ _ _ (by decide), Act.eval_put_ne _ _ _ _ (by decide), b7]
              have ec : ∀ v, Act.eval (((((((((((a0.put (some 24) (.pointer (some ⟨B, 1, none⟩))).put (some 25) (.slice (some ⟨g2, 0, none⟩) N z2)).put (some 26) (.int .i64 ((a : Nat) : Int))).put (some 27) (.pointer (some ⟨g2, a, none⟩))).put (some 28) (hdr N (rbw a))).put (some 29) (.int .i64 ((b : Nat) : Int))).put (some 30) (.pointer (some ⟨B, 1, none⟩))).put (some 31) (.slice (some ⟨g2, 0, none⟩) N z2)).put (some 32) (.int .i64 ((a : Nat) : Int))).put (some 33) (.pointer (some ⟨g2, a, none⟩))).put (some 34) (hdr N (rbw a))) (.const v) = v := fun _ => rfl
              have ef : ∀ f, Act.eval (((((((((((a0.put (some 24) (.pointer (some ⟨B, 1, none⟩))).put (some 25) (.slice (some ⟨g2, 0, none⟩) N z2)).put (some 26) (.int .i64 ((a : Nat) : Int))).put (some 27) (.pointer (some ⟨g2, a, none⟩))).put (some 28) (hdr N (rbw a))).put (some 29) (.int .i64 ((b : Nat) : Int))).put (some 30) (.pointer (some ⟨B, 1, none⟩))).put (some 31) (.slice (some ⟨g2, 0, none⟩) N z2)).put (some 32) (.int .i64 ((a : Nat) : Int))).put (some 33) (.pointer (some ⟨g2, a, none⟩))).put (some 34) (hdr N (rbw a))) (.func f) = .func (.func f) #[] #[] := fun _ => rfl
              generalize Act.eval (((((((((((a0.put (some 24) (.pointer (some ⟨B, 1, none⟩))).put (some 25) (.slice (some ⟨g2, 0, none⟩) N z2)).put (some 26) (.int .i64 ((a : Nat) : Int))).put (some 27) (.pointer (some ⟨g2, a, none⟩))).put (some 28) (hdr N (rbw a))).put (some 29) (.int .i64 ((b : Nat) : Int))).put (some 30) (.pointer (some ⟨B, 1, none⟩))).put (some 31) (.slice (some ⟨g2, 0, none⟩) N z2)).put (some 32) (.int .i64 ((a : Nat) : Int))).put (some 33) (.pointer (some ⟨g2, a, none⟩))).put (some 34) (hdr N (rbw a))) = ρ at *
              simp only [List.getElem_toArray, List.getElem_cons_zero, List.getElem_cons_succ]
              clear hSw
              go_simp
            refine anyS_take (i := 12) (d := some 36) (v := .pointer (some ⟨rbw a, b, none⟩)) hS rfl rfl (by kernel_rfl) (by kernel_rfl) (by kernel_rfl) (fun _ _ _ h => h) (by rfl) ?_ ?_
            · intro w9 hSw
              have e34 : Act.eval ((((((((((((a0.put (some 24) (.pointer (some ⟨B, 1, none⟩))).put (some 25) (.slice (some ⟨g2, 0, none⟩) N z2)).put (some 26) (.int .i64 ((a : Nat) : Int))).put (some 27) (.pointer (some ⟨g2, a, none⟩))).put (some 28) (hdr N (rbw a))).put (some 29) (.int .i64 ((b : Nat) : Int))).put (some 30) (.pointer (some ⟨B, 1, none⟩))).put (some 31) (.slice (some ⟨g2, 0, none⟩) N z2)).put (some 32) (.int .i64 ((a : Nat) : Int))).put (some 33) (.pointer (some ⟨g2, a, none⟩))).put (some 34) (hdr N (rbw a))).put (some 35) (.int .i64 ((b : Nat) : Int))) (.tmp 34) = hdr N (rbw a) := by rw [Act.eval_put_ne _ _ _ _ (by decide), Act.eval_put_same _ _ _ (by (repeat rw [Act.size_put]); omega)]
              have e35 : Act.eval ((((((((((((a0.put (some 24) (.pointer (some ⟨B, 1, none⟩))).put (some 25) (.slice (some ⟨g2, 0, none⟩) N z2)).put (some 26) (.int .i64 ((a : Nat) : Int))).put (some 27) (.pointer (some ⟨g2, a, none⟩))).put (some 28) (hdr N (rbw a))).put (some 29) (.int .i64 ((b : Nat) : Int))).put (some 30) (.pointer (some ⟨B, 1, none⟩))).put (some 31) (.slice (some ⟨g2, 0, none⟩) N z2)).put (some 32) (.int .i64 ((a : Nat) : Int))).put (some 33) (.pointer (some ⟨g2, a, none⟩))).put (some 34) (hdr N (rbw a))).put (some 35) (.int .i64 ((b : Nat) : Int))) (.tmp 35) = .int .i64 ((b : Nat) : Int) := by rw [Act.eval_put_same _ _ _ (by (repeat rw [Act.size_put]); omega)]
              have ec : ∀ v, Act.eval ((((((((((((a0.put (some 24) (.pointer (some ⟨B, 1, none⟩))).put (some 25) (.slice (some ⟨g2, 0, none⟩) N z2)).put (some 26) (.int .i64 ((a : Nat) : Int))).put (some 27) (.pointer (some ⟨g2, a, none⟩))).put (some 28) (hdr N (rbw a))).put (some 29) (.int .i64 ((b : Nat) : Int))).put (some 30) (.pointer (some ⟨B, 1, none⟩))).put (some 31) (.slice (some ⟨g2, 0, none⟩) N z2)).put (some 32) (.int .i64 ((a : Nat) : Int))).put (some 33) (.pointer (some ⟨g2, a, none⟩))).put (some 34) (hdr N (rbw a))).put (some 35) (.int .i64 ((b : Nat) : Int))) (.const v) = v := fun _ => rfl
              have ef : ∀ f, Act.eval ((((((((((((a0.put (some 24) (.pointer (some ⟨B, 1, none⟩))).put (some 25) (.slice (some ⟨g2, 0, none⟩) N z2)).put (some 26) (.int .i64 ((a : Nat) : Int))).put (some 27) (.pointer (some ⟨g2, a, none⟩))).put (some 28) (hdr N (rbw a))).put (some 29) (.int .i64 ((b : Nat) : Int))).put (some 30) (.pointer (some ⟨B, 1, none⟩))).put (some 31) (.slice (some ⟨g2, 0, none⟩) N z2)).put (some 32) (.int .i64 ((a : Nat) : Int))).put (some 33) (.pointer (some ⟨g2, a, none⟩))).put (some 34) (hdr N (rbw a))).put (some 35) (.int .i64 ((b : Nat) : Int))) (.func f) = .func (.func f) #[] #[] := fun _ => rfl
              generalize Act.eval ((((((((((((a0.put (some 24) (.pointer (some ⟨B, 1, none⟩))).put (some 25) (.slice (some ⟨g2, 0, none⟩) N z2)).put (some 26) (.int .i64 ((a : Nat) : Int))).put (some 27) (.pointer (some ⟨g2, a, none⟩))).put (some 28) (hdr N (rbw a))).put (some 29) (.int .i64 ((b : Nat) : Int))).put (some 30) (.pointer (some ⟨B, 1, none⟩))).put (some 31) (.slice (some ⟨g2, 0, none⟩) N z2)).put (some 32) (.int .i64 ((a : Nat) : Int))).put (some 33) (.pointer (some ⟨g2, a, none⟩))).put (some 34) (hdr N (rbw a))).put (some 35) (.int .i64 ((b : Nat) : Int))) = ρ at *
              simp only [List.getElem_toArray, List.getElem_cons_zero, List.getElem_cons_succ]
              clear hSw
              go_simp
            refine wpAnyH_ready (rs := [13]) (by kernel_rfl) (by simp) ?_
            refine anyS_value (i := 13) (d := some 37) (v := .bool true) (w' := wr.drew) rfl rfl (by rfl) ?_ hS ?_ AllReadyH.nil
            · skip
              have e36 : Act.eval (((((((((((((a0.put (some 24) (.pointer (some ⟨B, 1, none⟩))).put (some 25) (.slice (some ⟨g2, 0, none⟩) N z2)).put (some 26) (.int .i64 ((a : Nat) : Int))).put (some 27) (.pointer (some ⟨g2, a, none⟩))).put (some 28) (hdr N (rbw a))).put (some 29) (.int .i64 ((b : Nat) : Int))).put (some 30) (.pointer (some ⟨B, 1, none⟩))).put (some 31) (.slice (some ⟨g2, 0, none⟩) N z2)).put (some 32) (.int .i64 ((a : Nat) : Int))).put (some 33) (.pointer (some ⟨g2, a, none⟩))).put (some 34) (hdr N (rbw a))).put (some 35) (.int .i64 ((b : Nat) : Int))).put (some 36) (.pointer (some ⟨rbw a, b, none⟩))) (.tmp 36) = .pointer (some ⟨rbw a, b, none⟩) := by rw [Act.eval_put_same _ _ _ (by (repeat rw [Act.size_put]); omega)]
              have ec : ∀ v, Act.eval (((((((((((((a0.put (some 24) (.pointer (some ⟨B, 1, none⟩))).put (some 25) (.slice (some ⟨g2, 0, none⟩) N z2)).put (some 26) (.int .i64 ((a : Nat) : Int))).put (some 27) (.pointer (some ⟨g2, a, none⟩))).put (some 28) (hdr N (rbw a))).put (some 29) (.int .i64 ((b : Nat) : Int))).put (some 30) (.pointer (some ⟨B, 1, none⟩))).put (some 31) (.slice (some ⟨g2, 0, none⟩) N z2)).put (some 32) (.int .i64 ((a : Nat) : Int))).put (some 33) (.pointer (some ⟨g2, a, none⟩))).put (some 34) (hdr N (rbw a))).put (some 35) (.int .i64 ((b : Nat) : Int))).put (some 36) (.pointer (some ⟨rbw a, b, none⟩))) (.const v) = v := fun _ => rfl
              have ef : ∀ f, Act.eval (((((((((((((a0.put (some 24) (.pointer (some ⟨B, 1, none⟩))).put (some 25) (.slice (some ⟨g2, 0, none⟩) N z2)).put (some 26) (.int .i64 ((a : Nat) : Int))).put (some 27) (.pointer (some ⟨g2, a, none⟩))).put (some 28) (hdr N (rbw a))).put (some 29) (.int .i64 ((b : Nat) : Int))).put (some 30) (.pointer (some ⟨B, 1, none⟩))).put (some 31) (.slice (some ⟨g2, 0, none⟩) N z2)).put (some 32) (.int .i64 ((a : Nat) : Int))).put (some 33) (.pointer (some ⟨g2, a, none⟩))).put (some 34) (hdr N (rbw a))).put (some 35) (.int .i64 ((b : Nat) : Int))).put (some 36) (.pointer (some ⟨rbw a, b, none⟩))) (.func f) = .func (.func f) #[] #[] := fun _ => rfl
              generalize Act.eval (((((((((((((a0.put (some 24) (.pointer (some ⟨B, 1, none⟩))).put (some 25) (.slice (some ⟨g2, 0, none⟩) N z2)).put (some 26) (.int .i64 ((a : Nat) : Int))).put (some 27) (.pointer (some ⟨g2, a, none⟩))).put (some 28) (hdr N (rbw a))).put (some 29) (.int .i64 ((b : Nat) : Int))).put (some 30) (.pointer (some ⟨B, 1, none⟩))).put (some 31) (.slice (some ⟨g2, 0, none⟩) N z2)).put (some 32) (.int .i64 ((a : Nat) : Int))).put (some 33) (.pointer (some ⟨g2, a, none⟩))).put (some 34) (hdr N (rbw a))).put (some 35) (.int .i64 ((b : Nat) : Int))).put (some 36) (.pointer (some ⟨rbw a, b, none⟩))) = ρ at *
              simp only [List.getElem_toArray, List.getElem_cons_zero, List.getElem_cons_succ]
              go_simp
            refine anyS_take (i := 14) (d := some 38) (v := .bool true) hS rfl rfl (by kernel_rfl) (by kernel_rfl) (by kernel_rfl) (fun _ _ _ h => h) (by rfl) ?_ ?_
            · intro w9 hSw
              have e37 : Act.eval ((((((((((((((a0.put (some 24) (.pointer (some ⟨B, 1, none⟩))).put (some 25) (.slice (some ⟨g2, 0, none⟩) N z2)).put (some 26) (.int .i64 ((a : Nat) : Int))).put (some 27) (.pointer (some ⟨g2, a, none⟩))).put (some 28) (hdr N (rbw a))).put (some 29) (.int .i64 ((b : Nat) : Int))).put (some 30) (.pointer (some ⟨B, 1, none⟩))).put (some 31) (.slice (some ⟨g2, 0, none⟩) N z2)).put (some 32) (.int .i64 ((a : Nat) : Int))).put (some 33) (.pointer (some ⟨g2, a, none⟩))).put (some 34) (hdr N (rbw a))).put (some 35) (.int .i64 ((b : Nat) : Int))).put (some 36) (.pointer (some ⟨rbw a, b, none⟩))).put (some 37) (.bool true)) (.tmp 37) = .bool true := by rw [Act.eval_put_same _ _ _ (by (repeat rw [Act.size_put]); omega)]
              have ec : ∀ v, Act.eval ((((((((((((((a0.put (some 24) (.pointer (some ⟨B, 1, none⟩))).put (some 25) (.slice (some ⟨g2, 0, none⟩) N z2)).put (some 26) (.int .i64 ((a : Nat) : Int))).put (some 27) (.pointer (some ⟨g2, a, none⟩))).put (some 28) (hdr N (rbw a))).put (some 29) (.int .i64 ((b : Nat) : Int))).put (some 30) (.pointer (some ⟨B, 1, none⟩))).put (some 31) (.slice (some ⟨g2, 0, none⟩) N z2)).put (some 32) (.int .i64 ((a : Nat) : Int))).put (some 33) (.pointer (some ⟨g2, a, none⟩))).put (some 34) (hdr N (rbw a))).put (some 35) (.int .i64 ((b : Nat) : Int))).put (some 36) (.pointer (some ⟨rbw a, b, none⟩))).put (some 37) (.bool true)) (.const v) = v := fun _ => rfl
              have ef : ∀ f, Act.eval ((((((((((((((a0.put (some 24) (.pointer (some ⟨B, 1, none⟩))).put (some 25) (.slice (some ⟨g2, 0, none⟩) N z2)).put (some 26) (.int .i64 ((a : Nat) : Int))).put (some 27) (.pointer (some ⟨g2, a, none⟩))).put (some 28) (hdr N (rbw a))).put (some 29) (.int .i64 ((b : Nat) : Int))).put (some 30) (.pointer (some ⟨B, 1, none⟩))).put (some 31) (.slice (some ⟨g2, 0, none⟩) N z2)).put (some 32) (.int .i64 ((a : Nat) : Int))).put (some 33) (.pointer (some ⟨g2, a, none⟩))).put (some 34) (hdr N (rbw a))).put (some 35) (.int .i64 ((b : Nat) : Int))).put (some 36) (.pointer (some ⟨rbw a, b, none⟩))).put (some 37) (.bool true)) (.func f) = .func (.func f) #[] #[] := fun _ => rfl
              generalize Act.eval ((((((((((((((a0.put (some 24) (.pointer (some ⟨B, 1, none⟩))).put (some 25) (.slice (some ⟨g2, 0, none⟩) N z2)).put (some 26) (.int .i64 ((a : Nat) : Int))).put (some 27) (.pointer (some ⟨g2, a, none⟩))).put (some 28) (hdr N (rbw a))).put (some 29) (.int .i64 ((b : Nat) : Int))).put (some 30) (.pointer (some ⟨B, 1, none⟩))).put (some 31) (.slice (some ⟨g2, 0, none⟩) N z2)).put (some 32) (.int .i64 ((a : Nat) : Int))).put (some 33) (.pointer (some ⟨g2, a, none⟩))).put (some 34) (hdr N (rbw a))).put (some 35) (.int .i64 ((b : Nat) : Int))).put (some 36) (.pointer (some ⟨rbw a, b, none⟩))).put (some 37) (.bool true)) = ρ at *
              simp only [List.getElem_toArray, List.getElem_cons_zero, List.getElem_cons_succ]
              clear hSw
              go_simp
            refine anyS_take (i := 15) (d := some 39) (v := .agg #[.int .i64 ((m : Nat) : Int), .slice x1 y1 z1]) hS rfl rfl (by kernel_rfl) (by kernel_rfl) (by kernel_rfl) (fun _ _ _ h => h) (wanted_guard (j := 14) (d := 38) (want := true) rfl rfl (by rw [tmp_put_same _ _ _ (by (repeat rw [Act.size_put]); omega)])) ?_ ?_
            · intro w9 hSw
              have e3 : Act.eval (((((((((((((((a0.put (some 24) (.pointer (some ⟨B, 1, none⟩))).put (some 25) (.slice (some ⟨g2, 0, none⟩) N z2)).put (some 26) (.int .i64 ((a : Nat) : Int))).put (some 27) (.pointer (some ⟨g2, a, none⟩))).put (some 28) (hdr N (rbw a))).put (some 29) (.int .i64 ((b : Nat) : Int))).put (some 30) (.pointer (some ⟨B, 1, none⟩))).put (some 31) (.slice (some ⟨g2, 0, none⟩) N z2)).put (some 32) (.int .i64 ((a : Nat) : Int))).put (some 33) (.pointer (some ⟨g2, a, none⟩))).put (some 34) (hdr N (rbw a))).put (some 35) (.int .i64 ((b : Nat) : Int))).put (some 36) (.pointer (some ⟨rbw a, b, none⟩))).put (some 37) (.bool true)).put (some 38) (.bool true)) (.tmp 3) = pv (w.heap.size + 1) := by rw [Act.eval_put_ne _ _ _ _ (by decide), Act.eval_put_ne _ _ _ _ (by decide), Act.eval_put_ne _ _ _ _ (by decide), Act.eval_put_ne _ _ _ _ (by decide), Act.eval_put_ne _ _ _ _ (by decide), Act.eval_put_ne _ _ _ _ (by decide), Act.eval_put_ne _ _ _ _ (by decide), Act.eval_put_ne _ _ _ _ (by decide), Act.eval_put_ne _ _ _ _ (by decide), Act.eval_put_ne _ _ _ _ (by decide), Act.eval_put_ne _ _ _ _ (by decide), Act.eval_put_ne _ _ _ _ (by decide), Act.eval_put_ne _ _ _ _ (by decide), Act.eval_put_ne _ _ _ _ (by decide), Act.eval_put_ne _ _ _ _ (by decide), b3]
              have ec : ∀ v, Act.eval (((((((((((((((a0.put (some 24) (.pointer (some ⟨B, 1, none⟩))).put (some 25) (.slice (some ⟨g2, 0, none⟩) N z2)).put (some 26) (.int .i64 ((a : Nat) : Int))).put (some 27) (.pointer (some ⟨g2, a, none⟩))).put (some 28) (hdr N (rbw a))).put (some 29) (.int .i64 ((b : Nat) : Int))).put (some 30) (.pointer (some ⟨B, 1, none⟩))).put (some 31) (.slice (some ⟨g2, 0, none⟩) N z2)).put (some 32) (.int .i64 ((a : Nat) : Int))).put (some 33) (.pointer (some ⟨g2, a, none⟩))).put (some 34) (hdr N (rbw a))).put (some 35) (.int .i64 ((b : Nat) : Int))).put (some 36) (.pointer (some ⟨rbw a, b, none⟩))).put (some 37) (.bool true)).put (some 38) (.bool true)) (.const v) = v := fun _ => rfl
              have ef : ∀ f, Act.eval (((((((((((((((a0.put (some 24) (.pointer (some ⟨B, 1, none⟩))).put (some 25) (.slice (some ⟨g2, 0, none⟩) N z2)).put (some 26) (.int .i64 ((a : Nat) : Int))).put (some 27) (.pointer (some ⟨g2, a, none⟩))).put (some 28) (hdr N (rbw a))).put (some 29) (.int .i64 ((b : Nat) : Int))).put (some 30) (.pointer (some ⟨B, 1, none⟩))).put (some 31) (.slice (some ⟨g2, 0, none⟩) N z2)).put (some 32) (.int .i64 ((a : Nat) : Int))).put (some 33) (.pointer (some ⟨g2, a, none⟩))).put (some 34) (hdr N (rbw a))).put (some 35) (.int .i64 ((b : Nat) : Int))).put (some 36) (.pointer (some ⟨rbw a, b, none⟩))).put (some 37) (.bool true)).put (some 38) (.bool true)) (.func f) = .func (.func f) #[] #[] := fun _ => rfl
              generalize Act.eval (((((((((((((((a0.put (some 24) (.pointer (some ⟨B, 1, none⟩))).put (some 25) (.slice (some ⟨g2, 0, none⟩) N z2)).put (some 26) (.int .i64 ((a : Nat) : Int))).put (some 27) (.pointer (some ⟨g2, a, none⟩))).put (some 28) (hdr N (rbw a))).put (some 29) (.int .i64 ((b : Nat) : Int))).put (some 30) (.pointer (some ⟨B, 1, none⟩))).put (some 31) (.slice (some ⟨g2, 0, none⟩) N z2)).put (some 32) (.int .i64 ((a : Nat) : Int))).put (some 33) (.pointer (some ⟨g2, a, none⟩))).put (some 34) (hdr N (rbw a))).put (some 35) (.int .i64 ((b : Nat) : Int))).put (some 36) (.pointer (some ⟨rbw a, b, none⟩))).put (some 37) (.bool true)).put (some 38) (.bool true)) = ρ at *
              simp only [List.getElem_toArray, List.getElem_cons_zero, List.getElem_cons_succ]
              obtain ⟨F9, hA9⟩ := hSw
              have k0 := hA9.snd.cell (j := 0) rfl
              have k1 := hA9.snd.cell (j := 1) rfl
              go_simp
            refine anyS_take (i := 16) (d := some 40) (v := .int .i64 ((a : Nat) : Int)) hS rfl rfl (by kernel_rfl) (by kernel_rfl) (by kernel_rfl) (fun _ _ _ h => h) (wanted_guard (j := 14) (d := 38) (want := true) rfl rfl (by rw [tmp_put_ne _ _ _ _ (by decide), tmp_put_same _ _ _ (by (repeat rw [Act.size_put]); omega)])) ?_ ?_
            · intro w9 hSw
              have e6 : Act.eval ((((((((((((((((a0.put (some 24) (.pointer (some ⟨B, 1, none⟩))).put (some 25) (.slice (some ⟨g2, 0, none⟩) N z2)).put (some 26) (.int .i64 ((a : Nat) : Int))).put (some 27) (.pointer (some ⟨g2, a, none⟩))).put (some 28) (hdr N (rbw a))).put (some 29) (.int .i64 ((b : Nat) : Int))).put (some 30) (.pointer (some ⟨B, 1, none⟩))).put (some 31) (.slice (some ⟨g2, 0, none⟩) N z2)).put (some 32) (.int .i64 ((a : Nat) : Int))).put (some 33) (.pointer (some ⟨g2, a, none⟩))).put (some 34) (hdr N (rbw a))).put (some 35) (.int .i64 ((b : Nat) : Int))).put (some 36) (.pointer (some ⟨rbw a, b, none⟩))).put (some 37) (.bool true)).put (some 38) (.bool true)).put (some 39) (.agg #[.int .i64 ((m : Nat) : Int), .slice x1 y1 z1])) (.tmp 6) = .int .i64 ((a : Nat) : Int) := by rw [Act.eval_put_ne _ _ _ _ (by decide), Act.eval_put_ne _ _ _ _ (by decide), Act.eval_put_ne _ _ _ _ (by decide), Act.eval_put_ne _ _ _ _ (by decide), Act.eval_put_ne _ _ _ _ (by decide), Act.eval_put_ne _ _ _ _ (by decide), Act.eval_put_ne _ _ _ _ (by decide), Act.eval_put_ne _ _ _ _ (by decide), Act.eval_put_ne _ _ _ _ (by decide), Act.eval_put_ne _ _ _ _ (by decide), Act.eval_put_ne _ _ _ _ (by decide), Act.eval_put_ne _ _ _ _ (by decide), Act.eval_put_ne _ _ _ _ (by decide), Act.eval_put_ne _ _ _ _ (by decide), Act.eval_put_ne _ _ _ _ (by decide), Act.eval_put_ne _ _ _ _ (by decide), b6]
              have ec : ∀ v, Act.eval ((((((((((((((((a0.put (some 24) (.pointer (some ⟨B, 1, none⟩))).put (some 25) (.slice (some ⟨g2, 0, none⟩) N z2)).put (some 26) (.int .i64 ((a : Nat) : Int))).put (some 27) (.pointer (some ⟨g2, a, none⟩))).put (some 28) (hdr N (rbw a))).put (some 29) (.int .i64 ((b : Nat) : Int))).put (some 30) (.pointer (some ⟨B, 1, none⟩))).put (some 31) (.slice (some ⟨g2, 0, none⟩) N z2)).put (some 32) (.int .i64 ((a : Nat) : Int))).put (some 33) (.pointer (some ⟨g2, a, none⟩))).put (some 34) (hdr N (rbw a))).put (some 35) (.int .i64 ((b : Nat) : Int))).put (some 36) (.pointer (some ⟨rbw a, b, none⟩))).put (some 37) (.bool true)).put (some 38) (.bool true)).put (some 39) (.agg #[.int .i64 ((m : Nat) : Int), .slice x1 y1 z1])) (.const v) = v := fun _ => rfl
              have ef : ∀ f, Act.eval ((((((((((((((((a0.put (some 24) (.pointer (some ⟨B, 1, none⟩))).put (some 25) (.slice (some ⟨g2, 0, none⟩) N z2)).put (some 26) (.int .i64 ((a : Nat) : Int))).put (some 27) (.pointer (some ⟨g2, a, none⟩))).put (some 28) (hdr N (rbw a))).put (some 29) (.int .i64 ((b : Nat) : Int))).put (some 30) (.pointer (some ⟨B, 1, none⟩))).put (some 31) (.slice (some ⟨g2, 0, none⟩) N z2)).put (some 32) (.int .i64 ((a : Nat) : Int))).put (some 33) (.pointer (some ⟨g2, a, none⟩))).put (some 34) (hdr N (rbw a))).put (some 35) (.int .i64 ((b : Nat) : Int))).put (some 36) (.pointer (some ⟨rbw a, b, none⟩))).put (some 37) (.bool true)).put (some 38) (.bool true)).put (some 39) (.agg #[.int .i64 ((m : Nat) : Int), .slice x1 y1 z1])) (.func f) = .func (.func f) #[] #[] := fun _ => rfl
              generalize Act.eval ((((((((((((((((a0.put (some 24) (.pointer (some ⟨B, 1, none⟩))).put (some 25) (.slice (some ⟨g2, 0, none⟩) N z2)).put (some 26) (.int .i64 ((a : Nat) : Int))).put (some 27) (.pointer (some ⟨g2, a, none⟩))).put (some 28) (hdr N (rbw a))).put (some 29) (.int .i64 ((b : Nat) : Int))).put (some 30) (.pointer (some ⟨B, 1, none⟩))).put (some 31) (.slice (some ⟨g2, 0, none⟩) N z2)).put (some 32) (.int .i64 ((a : Nat) : Int))).put (some 33) (.pointer (some ⟨g2, a, none⟩))).put (some 34) (hdr N (rbw a))).put (some 35) (.int .i64 ((b : Nat) : Int))).put (some 36) (.pointer (some ⟨rbw a, b, none⟩))).put (some 37) (.bool true)).put (some 38) (.bool true)).put (some 39) (.agg #[.int .i64 ((m : Nat) : Int), .slice x1 y1 z1])) = ρ at *
              simp only [List.getElem_toArray, List.getElem_cons_zero, List.getElem_cons_succ]
              clear hSw
              go_simp
            refine anyS_take (i := 17) (d := some 41) (v := .int .i64 ((b : Nat) : Int)) hS rfl rfl (by kernel_rfl) (by kernel_rfl) (by kernel_rfl) (fun _ _ _ h => h) (wanted_guard (j := 14) (d := 38) (want := true) rfl rfl (by rw [tmp_put_ne _ _ _ _ (by decide), tmp_put_ne _ _ _ _ (by decide), tmp_put_same _ _ _ (by (repeat rw [Act.size_put]); omega)])) ?_ ?_
            · intro w9 hSw
              have e7 : Act.eval (((((((((((((((((a0.put (some 24) (.pointer (some ⟨B, 1, none⟩))).put (some 25) (.slice (some ⟨g2, 0, none⟩) N z2)).put (some 26) (.int .i64 ((a : Nat) : Int))).put (some 27) (.pointer (some ⟨g2, a, none⟩))).put (some 28) (hdr N (rbw a))).put (some 29) (.int .i64 ((b : Nat) : Int))).put (some 30) (.pointer (some ⟨B, 1, none⟩))).put (some 31) (.slice (some ⟨g2, 0, none⟩) N z2)).put (some 32) (.int .i64 ((a : Nat) : Int))).put (some 33) (.pointer (some ⟨g2, a, none⟩))).put (some 34) (hdr N (rbw a))).put (some 35) (.int .i64 ((b : Nat) : Int))).put (some 36) (.pointer (some ⟨rbw a, b, none⟩))).put (some 37) (.bool true)).put (some 38) (.bool true)).put (some 39) (.agg #[.int .i64 ((m : Nat) : Int), .slice x1 y1 z1])).put (some 40) (.int .i64 ((a : Nat) : Int))) (.tmp 7) = .int .i64 ((b : Nat) : Int) := by rw [Act.eval_put_ne _ _ _ _ (by decide), Act.eval_put_ne _ _ _ _ (by decide), Act.eval_put_ne _ _ _ _ (by decide), Act.eval_put_ne _ _ _ _ (by decide), Act.eval_put_ne _ _ _ _ (by decide), Act.eval_put_ne _ _ _ _ (by decide), Act.eval_put_ne _ _ _ _ (by decide), Act.eval_put_ne _ _ _ _ (by decide), Act.eval_put_ne _ _ _ _ (by decide), Act.eval_put_ne _ _ _ _ (by decide), Act.eval_put_ne _ _ _ _ (by decide), Act.eval_put_ne _ _ _ _ (by decide), Act.eval_put_ne _ _ _ _ (by decide), Act.eval_put_ne _ _ _ _ (by decide), Act.eval_put_ne _ _ _ _ (by decide), Act.eval_put_ne _ _ _ _ (by decide), Act.eval_put_ne _ _ _ _ (by decide), b7]
              have ec : ∀ v, Act.eval (((((((((((((((((a0.put (some 24) (.pointer (some ⟨B, 1, none⟩))).put (some 25) (.slice (some ⟨g2, 0, none⟩) N z2)).put (some 26) (.int .i64 ((a : Nat) : Int))).put (some 27) (.pointer (some ⟨g2, a, none⟩))).put (some 28) (hdr N (rbw a))).put (some 29) (.int .i64 ((b : Nat) : Int))).put (some 30) (.pointer (some ⟨B, 1, none⟩))).put (some 31) (.slice (some ⟨g2, 0, none⟩) N z2)).put (some 32) (.int .i64 ((a : Nat) : Int))).put (some 33) (.pointer (some ⟨g2, a, none⟩))).put (some 34) (hdr N (rbw a))).put (some 35) (.int .i64 ((b : Nat) : Int))).put (some 36) (.pointer (some ⟨rbw a, b, none⟩))).put (some 37) (.bool true)).put (some 38) (.bool true)).put (some 39) (.agg #[.int .i64 ((m : Nat) : Int), .slice x1 y1 z1])).put (some 40) (.int .i64 ((a : Nat) : Int))) (.const v) = v := fun _ => rfl
              have ef : ∀ f, Act.eval (((((((((((((((((a0.put (some 24) (.pointer (some ⟨B, 1, none⟩))).put (some 25) (.slice (some ⟨g2, 0, none⟩) N z2)).put (some 26) (.int .i64 ((a : Nat) : Int))).put (some 27) (.pointer (some ⟨g2, a, none⟩))).put (some 28) (hdr N (rbw a))).put (some 29) (.int .i64 ((b : Nat) : Int))).put (some 30) (.pointer (some ⟨B, 1, none⟩))).put (some 31) (.slice (some ⟨g2, 0, none⟩) N z2)).put (some 32) (.int .i64 ((a : Nat) : Int))).put (some 33) (.pointer (some ⟨g2, a, none⟩))).put (some 34) (hdr N (rbw a))).put (some 35) (.int .i64 ((b : Nat) : Int))).put (some 36) (.pointer (some ⟨rbw a, b, none⟩))).put (some 37) (.bool true)).put (some 38) (.bool true)).put (some 39) (.agg #[.int .i64 ((m : Nat) : Int), .slice x1 y1 z1])).put (some 40) (.int .i64 ((a : Nat) : Int))) (.func f) = .func (.func f) #[] #[] := fun _ => rfl
              generalize Act.eval (((((((((((((((((a0.put (some 24) (.pointer (some ⟨B, 1, none⟩))).put (some 25) (.slice (some ⟨g2, 0, none⟩) N z2)).put (some 26) (.int .i64 ((a : Nat) : Int))).put (some 27) (.pointer (some ⟨g2, a, none⟩))).put (some 28) (hdr N (rbw a))).put (some 29) (.int .i64 ((b : Nat) : Int))).put (some 30) (.pointer (some ⟨B, 1, none⟩))).put (some 31) (.slice (some ⟨g2, 0, none⟩) N z2)).put (some 32) (.int .i64 ((a : Nat) : Int))).put (some 33) (.pointer (some ⟨g2, a, none⟩))).put (some 34) (hdr N (rbw a))).put (some 35) (.int .i64 ((b : Nat) : Int))).put (some 36) (.pointer (some ⟨rbw a, b, none⟩))).put (some 37) (.bool true)).put (some 38) (.bool true)).put (some 39) (.agg #[.int .i64 ((m : Nat) : Int), .slice x1 y1 z1])).put (some 40) (.int .i64 ((a : Nat) : Int))) = ρ at *
              simp only [List.getElem_toArray, List.getElem_cons_zero, List.getElem_cons_succ]
              clear hSw
              go_simp
            refine wpAnyH_ready (rs := [18]) (by kernel_rfl) (by simp) ?_
            refine anyS_enter (i := 18) (d := some 42) (f := 87) (args := #[.agg #[.int .i64 ((m : Nat) : Int), .slice x1 y1 z1], .int .i64 ((a : Nat) : Int), .int .i64 ((b : Nat) : Int)]) (w' := wr.drew) rfl rfl (wanted_guard (j := 14) (d := 38) (want := true) rfl rfl (by rw [tmp_put_ne _ _ _ _ (by decide), tmp_put_ne _ _ _ _ (by decide), tmp_put_ne _ _ _ _ (by decide), tmp_put_same _ _ _ (by (repeat rw [Act.size_put]); omega)])) ?_ ?_ AllReadyH.nil
            · skip
              have e39 : Act.eval ((((((((((((((((((a0.put (some 24) (.pointer (some ⟨B, 1, none⟩))).put (some 25) (.slice (some ⟨g2, 0, none⟩) N z2)).put (some 26) (.int .i64 ((a : Nat) : Int))).put (some 27) (.pointer (some ⟨g2, a, none⟩))).put (some 28) (hdr N (rbw a))).put (some 29) (.int .i64 ((b : Nat) : Int))).put (some 30) (.pointer (some ⟨B, 1, none⟩))).put (some 31) (.slice (some ⟨g2, 0, none⟩) N z2)).put (some 32) (.int .i64 ((a : Nat) : Int))).put (some 33) (.pointer (some ⟨g2, a, none⟩))).put (some 34) (hdr N (rbw a))).put (some 35) (.int .i64 ((b : Nat) : Int))).put (some 36) (.pointer (some ⟨rbw a, b, none⟩))).put (some 37) (.bool true)).put (some 38) (.bool true)).put (some 39) (.agg #[.int .i64 ((m : Nat) : Int), .slice x1 y1 z1])).put (some 40) (.int .i64 ((a : Nat) : Int))).put (some 41) (.int .i64 ((b : Nat) : Int))) (.tmp 39) = .agg #[.int .i64 ((m : Nat) : Int), .slice x1 y1 z1] := by rw [Act.eval_put_ne _ _ _ _ (by decide), Act.eval_put_ne _ _ _ _ (by decide), Act.eval_put_same _ _ _ (by (repeat rw [Act.size_put]); omega)]
              have e40 : Act.eval ((((((((((((((((((a0.put (some 24) (.pointer (some ⟨B, 1, none⟩))).put (some 25) (.slice (some ⟨g2, 0, none⟩) N z2)).put (some 26) (.int .i64 ((a : Nat) : Int))).put (some 27) (.pointer (some ⟨g2, a, none⟩))).put (some 28) (hdr N (rbw a))).put (some 29) (.int .i64 ((b : Nat) : Int))).put (some 30) (.pointer (some ⟨B, 1, none⟩))).put (some 31) (.slice (some ⟨g2, 0, none⟩) N z2)).put (some 32) (.int .i64 ((a : Nat) : Int))).put (some 33) (.pointer (some ⟨g2, a, none⟩))).put (some 34) (hdr N (rbw a))).put (some 35) (.int .i64 ((b : Nat) : Int))).put (some 36) (.pointer (some ⟨rbw a, b, none⟩))).put (some 37) (.bool true)).put (some 38) (.bool true)).put (some 39) (.agg #[.int .i64 ((m : Nat) : Int), .slice x1 y1 z1])).put (some 40) (.int .i64 ((a : Nat) : Int))).put (some 41) (.int .i64 ((b : Nat) : Int))) (.tmp 40) = .int .i64 ((a : Nat) : Int) := by rw [Act.eval_put_ne _ _ _ _ (by decide), Act.eval_put_same _ _ _ (by (repeat rw [Act.size_put]); omega)]
              have e41 : Act.eval ((((((((((((((((((a0.put (some 24) (.pointer (some ⟨B, 1, none⟩))).put (some 25) (.slice (some ⟨g2, 0, none⟩) N z2)).put (some 26) (.int .i64 ((a : Nat) : Int))).put (some 27) (.pointer (some ⟨g2, a, none⟩))).put (some 28) (hdr N (rbw a))).put (some 29) (.int .i64 ((b : Nat) : Int))).put (some 30) (.pointer (some ⟨B, 1, none⟩))).put (some 31) (.slice (some ⟨g2, 0, none⟩) N z2)).put (some 32) (.int .i64 ((a : Nat) : Int))).put (some 33) (.pointer (some ⟨g2, a, none⟩))).put (some 34) (hdr N (rbw a))).put (some 35) (.int .i64 ((b : Nat) : Int))).put (some 36) (.pointer (some ⟨rbw a, b, none⟩))).put (some 37) (.bool true)).put (some 38) (.bool true)).put (some 39) (.agg #[.int .i64 ((m : Nat) : Int), .slice x1 y1 z1])).put (some 40) (.int .i64 ((a : Nat) : Int))).put (some 41) (.int .i64 ((b : Nat) : Int))) (.tmp 41) = .int .i64 ((b : Nat) : Int) := by rw [Act.eval_put_same _ _ _ (by (repeat rw [Act.size_put]); omega)]
              have ec : ∀ v, Act.eval ((((((((((((((((((a0.put (some 24) (.pointer (some ⟨B, 1, none⟩))).put (some 25) (.slice (some ⟨g2, 0, none⟩) N z2)).put (some 26) (.int .i64 ((a : Nat) : Int))).put (some 27) (.pointer (some ⟨g2, a, none⟩))).put (some 28) (hdr N (rbw a))).put (some 29) (.int .i64 ((b : Nat) : Int))).put (some 30) (.pointer (some ⟨B, 1, none⟩))).put (some 31) (.slice (some ⟨g2, 0, none⟩) N z2)).put (some 32) (.int .i64 ((a : Nat) : Int))).put (some 33) (.pointer (some ⟨g2, a, none⟩))).put (some 34) (hdr N (rbw a))).put (some 35) (.int .i64 ((b : Nat) : Int))).put (some 36) (.pointer (some ⟨rbw a, b, none⟩))).put (some 37) (.bool true)).put (some 38) (.bool true)).put (some 39) (.agg #[.int .i64 ((m : Nat) : Int), .slice x1 y1 z1])).put (some 40) (.int .i64 ((a : Nat) : Int))).put (some 41) (.int .i64 ((b : Nat) : Int))) (.const v) = v := fun _ => rfl
              have ef : ∀ f, Act.eval ((((((((((((((((((a0.put (some 24) (.pointer (some ⟨B, 1, none⟩))).put (some 25) (.slice (some ⟨g2, 0, none⟩) N z2)).put (some 26) (.int .i64 ((a : Nat) : Int))).put (some 27) (.pointer (some ⟨g2, a, none⟩))).put (some 28) (hdr N (rbw a))).put (some 29) (.int .i64 ((b : Nat) : Int))).put (some 30) (.pointer (some ⟨B, 1, none⟩))).put (some 31) (.slice (some ⟨g2, 0, none⟩) N z2)).put (some 32) (.int .i64 ((a : Nat) : Int))).put (some 33) (.pointer (some ⟨g2, a, none⟩))).put (some 34) (hdr N (rbw a))).put (some 35) (.int .i64 ((b : Nat) : Int))).put (some 36) (.pointer (some ⟨rbw a, b, none⟩))).put (some 37) (.bool true)).put (some 38) (.bool true)).put (some 39) (.agg #[.int .i64 ((m : Nat) : Int), .slice x1 y1 z1])).put (some 40) (.int .i64 ((a : Nat) : Int))).put (some 41) (.int .i64 ((b : Nat) : Int))) (.func f) = .func (.func f) #[] #[] := fun _ => rfl
              generalize Act.eval ((((((((((((((((((a0.put (some 24) (.pointer (some ⟨B, 1, none⟩))).put (some 25) (.slice (some ⟨g2, 0, none⟩) N z2)).put (some 26) (.int .i64 ((a : Nat) : Int))).put (some 27) (.pointer (some ⟨g2, a, none⟩))).put (some 28) (hdr N (rbw a))).put (some 29) (.int .i64 ((b : Nat) : Int))).put (some 30) (.pointer (some ⟨B, 1, none⟩))).put (some 31) (.slice (some ⟨g2, 0, none⟩) N z2)).put (some 32) (.int .i64 ((a : Nat) : Int))).put (some 33) (.pointer (some ⟨g2, a, none⟩))).put (some 34) (hdr N (rbw a))).put (some 35) (.int .i64 ((b : Nat) : Int))).put (some 36) (.pointer (some ⟨rbw a, b, none⟩))).put (some 37) (.bool true)).put (some 38) (.bool true)).put (some 39) (.agg #[.int .i64 ((m : Nat) : Int), .slice x1 y1 z1])).put (some 40) (.int .i64 ((a : Nat) : Int))).put (some 41) (.int .i64 ((b : Nat) : Int))) = ρ at *
              simp only [List.getElem_toArray, List.getElem_cons_zero, List.getElem_cons_succ]
              go_simp
            refine (refHas_calls lo2 m x1 y1 z1 rb1 G _ _ _ (h1.below hA.drew.below)).mono ?_
            rintro e w5 ⟨rfl, hB5⟩
            have hA5 := hA.drew.step hB5
            refine ⟨_, rfl, ⟨_, hA5⟩, ?_⟩
            rw [hasF_nat]
            clear hS s0 s1 fz d1
            have hS : ∃ F', MkAt w w5 3 [(0, #[.int .i64 ((n : Nat) : Int), .slice x y z]), (1, #[.int .i64 ((m : Nat) : Int), .slice x1 y1 z1]), (2, #[.int .i64 0, .slice none 0 0])] B N (.slice (some ⟨g2, 0, none⟩) N z2) rbw F' := ⟨_, hA5⟩
            have hA6 := hA5.put (p := a) (q := b) haN hbN (!extF m G a b)
            obtain ⟨_, _, e3, _, _, _, _, s2, fz, _⟩ := hA5.ref.at_ (p := a) (q := b) haN hbN
            clear e3
            refine anyS_take (i := 19) (d := some 43) (v := .bool (!extF m G a b)) hS rfl rfl (by kernel_rfl) (by kernel_rfl) (by kernel_rfl) (fun _ _ _ h => h) (wanted_guard (j := 14) (d := 38) (want := true) rfl rfl (by rw [tmp_put_ne _ _ _ _ (by decide), tmp_put_ne _ _ _ _ (by decide), tmp_put_ne _ _ _ _ (by decide), tmp_put_ne _ _ _ _ (by decide), tmp_put_same _ _ _ (by (repeat rw [Act.size_put]); omega)])) ?_ ?_
            · intro w9 hSw
              have e42 : Act.eval (((((((((((((((((((a0.put (some 24) (.pointer (some ⟨B, 1, none⟩))).put (some 25) (.slice (some ⟨g2, 0, none⟩) N z2)).put (some 26) (.int .i64 ((a : Nat) : Int))).put (some 27) (.pointer (some ⟨g2, a, none⟩))).put (some 28) (hdr N (rbw a))).put (some 29) (.int .i64 ((b : Nat) : Int))).put (some 30) (.pointer (some ⟨B, 1, none⟩))).put (some 31) (.slice (some ⟨g2, 0, none⟩) N z2)).put (some 32) (.int .i64 ((a : Nat) : Int))).put (some 33) (.pointer (some ⟨g2, a, none⟩))).put (some 34) (hdr N (rbw a))).put (some 35) (.int .i64 ((b : Nat) : Int))).put (some 36) (.pointer (some ⟨rbw a, b, none⟩))).put (some 37) (.bool true)).put (some 38) (.bool true)).put (some 39) (.agg #[.int .i64 ((m : Nat) : Int), .slice x1 y1 z1])).put (some 40) (.int .i64 ((a : Nat) : Int))).put (some 41) (.int .i64 ((b : Nat) : Int))).put (some 42) (.bool (extF m G a b))) (.tmp 42) = .bool (extF m G a b) := by rw [Act.eval_put_same _ _ _ (by (repeat rw [Act.size_put]); omega)]
              have ec : ∀ v, Act.eval (((((((((((((((((((a0.put (some 24) (.pointer (some ⟨B, 1, none⟩))).put (some 25) (.slice (some ⟨g2, 0, none⟩) N z2)).put (some 26) (.int .i64 ((a : Nat) : Int))).put (some 27) (.pointer (some ⟨g2, a, none⟩))).put (some 28) (hdr N (rbw a))).put (some 29) (.int .i64 ((b : Nat) : Int))).put (some 30) (.pointer (some ⟨B, 1, none⟩))).put (some 31) (.slice (some ⟨g2, 0, none⟩) N z2)).put (some 32) (.int .i64 ((a : Nat) : Int))).put (some 33) (.pointer (some ⟨g2, a, none⟩))).put (some 34) (hdr N (rbw a))).put (some 35) (.int .i64 ((b : Nat) : Int))).put (some 36) (.pointer (some ⟨rbw a, b, none⟩))).put (some 37) (.bool true)).put (some 38) (.bool true)).put (some 39) (.agg #[.int .i64 ((m : Nat) : Int), .slice x1 y1 z1])).put (some 40) (.int .i64 ((a : Nat) : Int))).put (some 41) (.int .i64 ((b : Nat) : Int))).put (some 42) (.bool (extF m G a b))) (.const v) = v := fun _ => rfl
              have ef : ∀ f, Act.eval (((((((((((((((((((a0.put (some 24) (.pointer (some ⟨B, 1, none⟩))).put (some 25) (.slice (some ⟨g2, 0, none⟩) N z2)).put (some 26) (.int .i64 ((a : Nat) : Int))).put (some 27) (.pointer (some ⟨g2, a, none⟩))).put (some 28) (hdr N (rbw a))).put (some 29) (.int .i64 ((b : Nat) : Int))).put (some 30) (.pointer (some ⟨B, 1, none⟩))).put (some 31) (.slice (some ⟨g2, 0, none⟩) N z2)).put (some 32) (.int .i64 ((a : Nat) : Int))).put (some 33) (.pointer (some ⟨g2, a, none⟩))).put (some 34) (hdr N (rbw a))).put (some 35) (.int .i64 ((b : Nat) : Int))).put (some 36) (.pointer (some ⟨rbw a, b, none⟩))).put (some 37) (.bool true)).put (some 38) (.bool true)).put (some 39) (.agg #[.int .i64 ((m : Nat) : Int), .slice x1 y1 z1])).put (some 40) (.int .i64 ((a : Nat) : Int))).put (some 41) (.int .i64 ((b : Nat) : Int))).put (some 42) (.bool (extF m G a b))) (.func f) = .func (.func f) #[] #[] := fun _ => rfl
              generalize Act.eval (((((((((((((((((((a0.put (some 24) (.pointer (some ⟨B, 1, none⟩))).put (some 25) (.slice (some ⟨g2, 0, none⟩) N z2)).put (some 26) (.int .i64 ((a : Nat) : Int))).put (some 27) (.pointer (some ⟨g2, a, none⟩))).put (some 28) (hdr N (rbw a))).put (some 29) (.int .i64 ((b : Nat) : Int))).put (some 30) (.pointer (some ⟨B, 1, none⟩))).put (some 31) (.slice (some ⟨g2, 0, none⟩) N z2)).put (some 32) (.int .i64 ((a : Nat) : Int))).put (some 33) (.pointer (some ⟨g2, a, none⟩))).put (some 34) (hdr N (rbw a))).put (some 35) (.int .i64 ((b : Nat) : Int))).put (some 36) (.pointer (some ⟨rbw a, b, none⟩))).put (some 37) (.bool true)).put (some 38) (.bool true)).put (some 39) (.agg #[.int .i64 ((m : Nat) : Int), .slice x1 y1 z1])).put (some 40) (.int .i64 ((a : Nat) : Int))).put (some 41) (.int .i64 ((b : Nat) : Int))).put (some 42) (.bool (extF m G a b))) = ρ at *
              simp only [List.getElem_toArray, List.getElem_cons_zero, List.getElem_cons_succ]
              clear hSw
              go_simp
            refine anyS_take (i := 20) (d := some 44) (v := .bool (!extF m G a b)) hS rfl rfl (by kernel_rfl) (by kernel_rfl) (by kernel_rfl) (fun _ _ _ h => h) (by rfl) ?_ ?_
            · intro w9 hSw
              have e38 : Act.eval ((((((((((((((((((((a0.put (some 24) (.pointer (some ⟨B, 1, none⟩))).put (some 25) (.slice (some ⟨g2, 0, none⟩) N z2)).put (some 26) (.int .i64 ((a : Nat) : Int))).put (some 27) (.pointer (some ⟨g2, a, none⟩))).put (some 28) (hdr N (rbw a))).put (some 29) (.int .i64 ((b : Nat) : Int))).put (some 30) (.pointer (some ⟨B, 1, none⟩))).put (some 31) (.slice (some ⟨g2, 0, none⟩) N z2)).put (some 32) (.int .i64 ((a : Nat) : Int))).put (some 33) (.pointer (some ⟨g2, a, none⟩))).put (some 34) (hdr N (rbw a))).put (some 35) (.int .i64 ((b : Nat) : Int))).put (some 36) (.pointer (some ⟨rbw a, b, none⟩))).put (some 37) (.bool true)).put (some 38) (.bool true)).put (some 39) (.agg #[.int .i64 ((m : Nat) : Int), .slice x1 y1 z1])).put (some 40) (.int .i64 ((a : Nat) : Int))).put (some 41) (.int .i64 ((b : Nat) : Int))).put (some 42) (.bool (extF m G a b))).put (some 43) (.bool (!extF m G a b))) (.tmp 38) = .bool true := by rw [Act.eval_put_ne _ _ _ _ (by decide), Act.eval_put_ne _ _ _ _ (by decide), Act.eval_put_ne _ _ _ _ (by decide), Act.eval_put_ne _ _ _ _ (by decide), Act.eval_put_ne _ _ _ _ (by decide), Act.eval_put_same _ _ _ (by (repeat rw [Act.size_put]); omega)]
              have e43 : Act.eval ((((((((((((((((((((a0.put (some 24) (.pointer (some ⟨B, 1, none⟩))).put (some 25) (.slice (some ⟨g2, 0, none⟩) N z2)).put (some 26) (.int .i64 ((a : Nat) : Int))).put (some 27) (.pointer (some ⟨g2, a, none⟩))).put (some 28) (hdr N (rbw a))).put (some 29) (.int .i64 ((b : Nat) : Int))).put (some 30) (.pointer (some ⟨B, 1, none⟩))).put (some 31) (.slice (some ⟨g2, 0, none⟩) N z2)).put (some 32) (.int .i64 ((a : Nat) : Int))).put (some 33) (.pointer (some ⟨g2, a, none⟩))).put (some 34) (hdr N (rbw a))).put (some 35) (.int .i64 ((b : Nat) : Int))).put (some 36) (.pointer (some ⟨rbw a, b, none⟩))).put (some 37) (.bool true)).put (some 38) (.bool true)).put (some 39) (.agg #[.int .i64 ((m : Nat) : Int), .slice x1 y1 z1])).put (some 40) (.int .i64 ((a : Nat) : Int))).put (some 41) (.int .i64 ((b : Nat) : Int))).put (some 42) (.bool (extF m G a b))).put (some 43) (.bool (!extF m G a b))) (.tmp 43) = .bool (!extF m G a b) := by rw [Act.eval_put_same _ _ _ (by (repeat rw [Act.size_put]); omega)]
              have ec : ∀ v, Act.eval ((((((((((((((((((((a0.put (some 24) (.pointer (some ⟨B, 1, none⟩))).put (some 25) (.slice (some ⟨g2, 0, none⟩) N z2)).put (some 26) (.int .i64 ((a : Nat) : Int))).put (some 27) (.pointer (some ⟨g2, a, none⟩))).put (some 28) (hdr N (rbw a))).put (some 29) (.int .i64 ((b : Nat) : Int))).put (some 30) (.pointer (some ⟨B, 1, none⟩))).put (some 31) (.slice (some ⟨g2, 0, none⟩) N z2)).put (some 32) (.int .i64 ((a : Nat) : Int))).put (some 33) (.pointer (some ⟨g2, a, none⟩))).put (some 34) (hdr N (rbw a))).put (some 35) (.int .i64 ((b : Nat) : Int))).put (some 36) (.pointer (some ⟨rbw a, b, none⟩))).put (some 37) (.bool true)).put (some 38) (.bool true)).put (some 39) (.agg #[.int .i64 ((m : Nat) : Int), .slice x1 y1 z1])).put (some 40) (.int .i64 ((a : Nat) : Int))).put (some 41) (.int .i64 ((b : Nat) : Int))).put (some 42) (.bool (extF m G a b))).put (some 43) (.bool (!extF m G a b))) (.const v) = v := fun _ => rfl
              have ef : ∀ f, Act.eval ((((((((((((((((((((a0.put (some 24) (.pointer (some ⟨B, 1, none⟩))).put (some 25) (.slice (some ⟨g2, 0, none⟩) N z2)).put (some 26) (.int .i64 ((a : Nat) : Int))).put (some 27) (.pointer (some ⟨g2, a, none⟩))).put (some 28) (hdr N (rbw a))).put (some 29) (.int .i64 ((b : Nat) : Int))).put (some 30) (.pointer (some ⟨B, 1, none⟩))).put (some 31) (.slice (some ⟨g2, 0, none⟩) N z2)).put (some 32) (.int .i64 ((a : Nat) : Int))).put (some 33) (.pointer (some ⟨g2, a, none⟩))).put (some 34) (hdr N (rbw a))).put (some 35) (.int .i64 ((b : Nat) : Int))).put (some 36) (.pointer (some ⟨rbw a, b, none⟩))).put (some 37) (.bool true)).put (some 38) (.bool true)).put (some 39) (.agg #[.int .i64 ((m : Nat) : Int), .slice x1 y1 z1])).put (some 40) (.int .i64 ((a : Nat) : Int))).put (some 41) (.int .i64 ((b : Nat) : Int))).put (some 42) (.bool (extF m G a b))).put (some 43) (.bool (!extF m G a b))) (.func f) = .func (.func f) #[] #[] := fun _ => rfl
              generalize Act.eval ((((((((((((((((((((a0.put (some 24) (.pointer (some ⟨B, 1, none⟩))).put (some 25) (.slice (some ⟨g2, 0, none⟩) N z2)).put (some 26) (.int .i64 ((a : Nat) : Int))).put (some 27) (.pointer (some ⟨g2, a, none⟩))).put (some 28) (hdr N (rbw a))).put (some 29) (.int .i64 ((b : Nat) : Int))).put (some 30) (.pointer (some ⟨B, 1, none⟩))).put (some 31) (.slice (some ⟨g2, 0, none⟩) N z2)).put (some 32) (.int .i64 ((a : Nat) : Int))).put (some 33) (.pointer (some ⟨g2, a, none⟩))).put (some 34) (hdr N (rbw a))).put (some 35) (.int .i64 ((b : Nat) : Int))).put (some 36) (.pointer (some ⟨rbw a, b, none⟩))).put (some 37) (.bool true)).put (some 38) (.bool true)).put (some 39) (.agg #[.int .i64 ((m : Nat) : Int), .slice x1 y1 z1])).put (some 40) (.int .i64 ((a : Nat) : Int))).put (some 41) (.int .i64 ((b : Nat) : Int))).put (some 42) (.bool (extF m G a b))).put (some 43) (.bool (!extF m G a b))) = ρ at *
              simp only [List.getElem_toArray, List.getElem_cons_zero, List.getElem_cons_succ]
              clear hSw
              go_simp
            refine anyS_take (i := 21) (d := some 45) (v := .pointer (some ⟨rbw a, b, none⟩)) hS rfl rfl (by kernel_rfl) (by kernel_rfl) (by kernel_rfl) (fun _ _ _ h => h) (by rfl) ?_ ?_
            · intro w9 hSw
              have e28 : Act.eval (((((((((((((((((((((a0.put (some 24) (.pointer (some ⟨B, 1, none⟩))).put (some 25) (.slice (some ⟨g2, 0, none⟩) N z2)).put (some 26) (.int .i64 ((a : Nat) : Int))).put (some 27) (.pointer (some ⟨g2, a, none⟩))).put (some 28) (hdr N (rbw a))).put (some 29) (.int .i64 ((b : Nat) : Int))).put (some 30) (.pointer (some ⟨B, 1, none⟩))).put (some 31) (.slice (some ⟨g2, 0, none⟩) N z2)).put (some 32) (.int .i64 ((a : Nat) : Int))).put (some 33) (.pointer (some ⟨g2, a, none⟩))).put (some 34) (hdr N (rbw a))).put (some 35) (.int .i64 ((b : Nat) : Int))).put (some 36) (.pointer (some ⟨rbw a, b, none⟩))).put (some 37) (.bool true)).put (some 38) (.bool true)).put (some 39) (.agg #[.int .i64 ((m : Nat) : Int), .slice x1 y1 z1])).put (some 40) (.int .i64 ((a : Nat) : Int))).put (some 41) (.int .i64 ((b : Nat) : Int))).put (some 42) (.bool (extF m G a b))).put (some 43) (.bool (!extF m G a b))).put (some 44) (.bool (!extF m G a b))) (.tmp 28) = hdr N (rbw a) := by rw [Act.eval_put_ne _ _ _ _ (by decide), Act.eval_put_ne _ _ _ _ (by decide), Act.eval_put_ne _ _ _ _ (by decide), Act.eval_put_ne _ _ _ _ (by decide), Act.eval_put_ne _ _ _ _ (by decide), Act.eval_put_ne _ _ _ _ (by decide), Act.eval_put_ne _ _ _ _ (by decide), Act.eval_put_ne _ _ _ _ (by decide), Act.eval_put_ne _ _ _ _ (by decide), Act.eval_put_ne _ _ _ _ (by decide), Act.eval_put_ne _ _ _ _ (by decide), Act.eval_put_ne _ _ _ _ (by decide), Act.eval_put_ne _ _ _ _ (by decide), Act.eval_put_ne _ _ _ _ (by decide), Act.eval_put_ne _ _ _ _ (by decide), Act.eval_put_ne _ _ _ _ (by decide), Act.eval_put_same _ _ _ (by (repeat rw [Act.size_put]); omega)]
              have e29 : Act.eval (((((((((((((((((((((a0.put (some 24) (.pointer (some ⟨B, 1, none⟩))).put (some 25) (.slice (some ⟨g2, 0, none⟩) N z2)).put (some 26) (.int .i64 ((a : Nat) : Int))).put (some 27) (.pointer (some ⟨g2, a, none⟩))).put (some 28) (hdr N (rbw a))).put (some 29) (.int .i64 ((b : Nat) : Int))).put (some 30) (.pointer (some ⟨B, 1, none⟩))).put (some 31) (.slice (some ⟨g2, 0, none⟩) N z2)).put (some 32) (.int .i64 ((a : Nat) : Int))).put (some 33) (.pointer (some ⟨g2, a, none⟩))).put (some 34) (hdr N (rbw a))).put (some 35) (.int .i64 ((b : Nat) : Int))).put (some 36) (.pointer (some ⟨rbw a, b, none⟩))).put (some 37) (.bool true)).put (some 38) (.bool true)).put (some 39) (.agg #[.int .i64 ((m : Nat) : Int), .slice x1 y1 z1])).put (some 40) (.int .i64 ((a : Nat) : Int))).put (some 41) (.int .i64 ((b : Nat) : Int))).put (some 42) (.bool (extF m G a b))).put (some 43) (.bool (!extF m G a b))).put (some 44) (.bool (!extF m G a b))) (.tmp 29) = .int .i64 ((b : Nat) : Int) := by rw [Act.eval_put_ne _ _ _ _ (by decide), Act.eval_put_ne _ _ _ _ (by decide), Act.eval_put_ne _ _ _ _ (by decide), Act.eval_put_ne _ _ _ _ (by decide), Act.eval_put_ne _ _ _ _ (by decide), Act.eval_put_ne _ _ _ _ (by decide), Act.eval_put_ne _ _ _ _ (by decide), Act.eval_put_ne _ _ _ _ (by decide), Act.eval_put_ne _ _ _ _ (by decide), Act.eval_put_ne _ _ _ _ (by decide), Act.eval_put_ne _ _ _ _ (by decide), Act.eval_put_ne _ _ _ _ (by decide), Act.eval_put_ne _ _ _ _ (by decide), Act.eval_put_ne _ _ _ _ (by decide), Act.eval_put_ne _ _ _ _ (by decide), Act.eval_put_same _ _ _ (by (repeat rw [Act.size_put]); omega)]
              have ec : ∀ v, Act.eval (((((((((((((((((((((a0.put (some 24) (.pointer (some ⟨B, 1, none⟩))).put (some 25) (.slice (some ⟨g2, 0, none⟩) N z2)).put (some 26) (.int .i64 ((a : Nat) : Int))).put (some 27) (.pointer (some ⟨g2, a, none⟩))).put (some 28) (hdr N (rbw a))).put (some 29) (.int .i64 ((b : Nat) : Int))).put (some 30) (.pointer (some ⟨B, 1, none⟩))).put (some 31) (.slice (some ⟨g2, 0, none⟩) N z2)).put (some 32) (.int .i64 ((a : Nat) : Int))).put (some 33) (.pointer (some ⟨g2, a, none⟩))).put (some 34) (hdr N (rbw a))).put (some 35) (.int .i64 ((b : Nat) : Int))).put (some 36) (.pointer (some ⟨rbw a, b, none⟩))).put (some 37) (.bool true)).put (some 38) (.bool true)).put (some 39) (.agg #[.int .i64 ((m : Nat) : Int), .slice x1 y1 z1])).put (some 40) (.int .i64 ((a : Nat) : Int))).put (some 41) (.int .i64 ((b : Nat) : Int))).put (some 42) (.bool (extF m G a b))).put (some 43) (.bool (!extF m G a b))).put (some 44) (.bool (!extF m G a b))) (.const v) = v := fun _ => rfl
              have ef : ∀ f, Act.eval (((((((((((((((((((((a0.put (some 24) (.pointer (some ⟨B, 1, none⟩))).put (some 25) (.slice (some ⟨g2, 0, none⟩) N z2)).put (some 26) (.int .i64 ((a : Nat) : Int))).put (some 27) (.pointer (some ⟨g2, a, none⟩))).put (some 28) (hdr N (rbw a))).put (some 29) (.int .i64 ((b : Nat) : Int))).put (some 30) (.pointer (some ⟨B, 1, none⟩))).put (some 31) (.slice (some ⟨g2, 0, none⟩) N z2)).put (some 32) (.int .i64 ((a : Nat) : Int))).put (some 33) (.pointer (some ⟨g2, a, none⟩))).put (some 34) (hdr N (rbw a))).put (some 35) (.int .i64 ((b : Nat) : Int))).put (some 36) (.pointer (some ⟨rbw a, b, none⟩))).put (some 37) (.bool true)).put (some 38) (.bool true)).put (some 39) (.agg #[.int .i64 ((m : Nat) : Int), .slice x1 y1 z1])).put (some 40) (.int .i64 ((a : Nat) : Int))).put (some 41) (.int .i64 ((b : Nat) : Int))).put (some 42) (.bool (extF m G a b))).put (some 43) (.bool (!extF m G a b))).put (some 44) (.bool (!extF m G a b))) (.func f) = .func (.func f) #[] #[] := fun _ => rfl
              generalize Act.eval (((((((((((((((((((((a0.put (some 24) (.pointer (some ⟨B, 1, none⟩))).put (some 25) (.slice (some ⟨g2, 0, none⟩) N z2)).put (some 26) (.int .i64 ((a : Nat) : Int))).put (some 27) (.pointer (some ⟨g2, a, none⟩))).put (some 28) (hdr N (rbw a))).put (some 29) (.int .i64 ((b : Nat) : Int))).put (some 30) (.pointer (some ⟨B, 1, none⟩))).put (some 31) (.slice (some ⟨g2, 0, none⟩) N z2)).put (some 32) (.int .i64 ((a : Nat) : Int))).put (some 33) (.pointer (some ⟨g2, a, none⟩))).put (some 34) (hdr N (rbw a))).put (some 35) (.int .i64 ((b : Nat) : Int))).put (some 36) (.pointer (some ⟨rbw a, b, none⟩))).put (some 37) (.bool true)).put (some 38) (.bool true)).put (some 39) (.agg #[.int .i64 ((m : Nat) : Int), .slice x1 y1 z1])).put (some 40) (.int .i64 ((a : Nat) : Int))).put (some 41) (.int .i64 ((b : Nat) : Int))).put (some 42) (.bool (extF m G a b))).put (some 43) (.bool (!extF m G a b))).put (some 44) (.bool (!extF m G a b))) = ρ at *
              simp only [List.getElem_toArray, List.getElem_cons_zero, List.getElem_cons_succ]
              clear hSw
              go_simp
            refine wpAnyH_ready (rs := [22]) (by kernel_rfl) (by simp) ?_
            refine anyS_skip (i := 22) (d := none) (w' := w5.setCell ⟨rbw a, b, none⟩ (.bool (!extF m G a b))) rfl rfl (by rfl) ?_ ⟨_, hA6⟩ ?_ AllReadyH.nil
            · skip
              have e44 : Act.eval ((((((((((((((((((((((a0.put (some 24) (.pointer (some ⟨B, 1, none⟩))).put (some 25) (.slice (some ⟨g2, 0, none⟩) N z2)).put (some 26) (.int .i64 ((a : Nat) : Int))).put (some 27) (.pointer (some ⟨g2, a, none⟩))).put (some 28) (hdr N (rbw a))).put (some 29) (.int .i64 ((b : Nat) : Int))).put (some 30) (.pointer (some ⟨B, 1, none⟩))).put (some 31) (.slice (some ⟨g2, 0, none⟩) N z2)).put (some 32) (.int .i64 ((a : Nat) : Int))).put (some 33) (.pointer (some ⟨g2, a, none⟩))).put (some 34) (hdr N (rbw a))).put (some 35) (.int .i64 ((b : Nat) : Int))).put (some 36) (.pointer (some ⟨rbw a, b, none⟩))).put (some 37) (.bool true)).put (some 38) (.bool true)).put (some 39) (.agg #[.int .i64 ((m : Nat) : Int), .slice x1 y1 z1])).put (some 40) (.int .i64 ((a : Nat) : Int))).put (some 41) (.int .i64 ((b : Nat) : Int))).put (some 42) (.bool (extF m G a b))).put (some 43) (.bool (!extF m G a b))).put (some 44) (.bool (!extF m G a b))).put (some 45) (.pointer (some ⟨rbw a, b, none⟩))) (.tmp 44) = .bool (!extF m G a b) := by rw [Act.eval_put_ne _ _ _ _ (by decide), Act.eval_put_same _ _ _ (by (repeat rw [Act.size_put]); omega)]
              have e45 : Act.eval ((((((((((((((((((((((a0.put (some 24) (.pointer (some ⟨B, 1, none⟩))).put (some 25) (.slice (some ⟨g2, 0, none⟩) N z2)).put (some 26) (.int .i64 ((a : Nat) : Int))).put (some 27) (.pointer (some ⟨g2, a, none⟩))).put (some 28) (hdr N (rbw a))).put (some 29) (.int .i64 ((b : Nat) : Int))).put (some 30) (.pointer (some ⟨B, 1, none⟩))).put (some 31) (.slice (some ⟨g2, 0, none⟩) N z2)).put (some 32) (.int .i64 ((a : Nat) : Int))).put (some 33) (.pointer (some ⟨g2, a, none⟩))).put (some 34) (hdr N (rbw a))).put (some 35) (.int .i64 ((b : Nat) : Int))).put (some 36) (.pointer (some ⟨rbw a, b, none⟩))).put (some 37) (.bool true)).put (some 38) (.bool true)).put (some 39) (.agg #[.int .i64 ((m : Nat) : Int), .slice x1 y1 z1])).put (some 40) (.int .i64 ((a : Nat) : Int))).put (some 41) (.int .i64 ((b : Nat) : Int))).put (some 42) (.bool (extF m G a b))).put (some 43) (.bool (!extF m G a b))).put (some 44) (.bool (!extF m G a b))).put (some 45) (.pointer (some ⟨rbw a, b, none⟩))) (.tmp 45) = .pointer (some ⟨rbw a, b, none⟩) := by rw [Act.eval_put_same _ _ _ (by (repeat rw [Act.size_put]); omega)]
              have ec : ∀ v, Act.eval ((((((((((((((((((((((a0.put (some 24) (.pointer (some ⟨B, 1, none⟩))).put (some 25) (.slice (some ⟨g2, 0, none⟩) N z2)).put (some 26) (.int .i64 ((a : Nat) : Int))).put (some 27) (.pointer (some ⟨g2, a, none⟩))).put (some 28) (hdr N (rbw a))).put (some 29) (.int .i64 ((b : Nat) : Int))).put (some 30) (.pointer (some ⟨B, 1, none⟩))).put (some 31) (.slice (some ⟨g2, 0, none⟩) N z2)).put (some 32) (.int .i64 ((a : Nat) : Int))).put (some 33) (.pointer (some ⟨g2, a, none⟩))).put (some 34) (hdr N (rbw a))).put (some 35) (.int .i64 ((b : Nat) : Int))).put (some 36) (.pointer (some ⟨rbw a, b, none⟩))).put (some 37) (.bool true)).put (some 38) (.bool true)).put (some 39) (.agg #[.int .i64 ((m : Nat) : Int), .slice x1 y1 z1])).put (some 40) (.int .i64 ((a : Nat) : Int))).put (some 41) (.int .i64 ((b : Nat) : Int))).put (some 42) (.bool (extF m G a b))).put (some 43) (.bool (!extF m G a b))).put (some 44) (.bool (!extF m G a b))).put (some 45) (.pointer (some ⟨rbw a, b, none⟩))) (.const v) = v := fun _ => rfl
              have ef : ∀ f, Act.eval ((((((((((((((((((((((a0.put (some 24) (.pointer (some ⟨B, 1, none⟩))).put (some 25) (.slice (some ⟨g2, 0, none⟩) N z2)).put (some 26) (.int .i64 ((a : Nat) : Int))).put (some 27) (.pointer (some ⟨g2, a, none⟩))).put (some 28) (hdr N (rbw a))).put (some 29) (.int .i64 ((b : Nat) : Int))).put (some 30) (.pointer (some ⟨B, 1, none⟩))).put (some 31) (.slice (some ⟨g2, 0, none⟩) N z2)).put (some 32) (.int .i64 ((a : Nat) : Int))).put (some 33) (.pointer (some ⟨g2, a, none⟩))).put (some 34) (hdr N (rbw a))).put (some 35) (.int .i64 ((b : Nat) : Int))).put (some 36) (.pointer (some ⟨rbw a, b, none⟩))).put (some 37) (.bool true)).put (some 38) (.bool true)).put (some 39) (.agg #[.int .i64 ((m : Nat) : Int), .slice x1 y1 z1])).put (some 40) (.int .i64 ((a : Nat) : Int))).put (some 41) (.int .i64 ((b : Nat) : Int))).put (some 42) (.bool (extF m G a b))).put (some 43) (.bool (!extF m G a b))).put (some 44) (.bool (!extF m G a b))).put (some 45) (.pointer (some ⟨rbw a, b, none⟩))) (.func f) = .func (.func f) #[] #[] := fun _ => rfl
              generalize Act.eval ((((((((((((((((((((((a0.put (some 24) (.pointer (some ⟨B, 1, none⟩))).put (some 25) (.slice (some ⟨g2, 0, none⟩) N z2)).put (some 26) (.int .i64 ((a : Nat) : Int))).put (some 27) (.pointer (some ⟨g2, a, none⟩))).put (some 28) (hdr N (rbw a))).put (some 29) (.int .i64 ((b : Nat) : Int))).put (some 30) (.pointer (some ⟨B, 1, none⟩))).put (some 31) (.slice (some ⟨g2, 0, none⟩) N z2)).put (some 32) (.int .i64 ((a : Nat) : Int))).put (some 33) (.pointer (some ⟨g2, a, none⟩))).put (some 34) (hdr N (rbw a))).put (some 35) (.int .i64 ((b : Nat) : Int))).put (some 36) (.pointer (some ⟨rbw a, b, none⟩))).put (some 37) (.bool true)).put (some 38) (.bool true)).put (some 39) (.agg #[.int .i64 ((m : Nat) : Int), .slice x1 y1 z1])).put (some 40) (.int .i64 ((a : Nat) : Int))).put (some 41) (.int .i64 ((b : Nat) : Int))).put (some 42) (.bool (extF m G a b))).put (some 43) (.bool (!extF m G a b))).put (some 44) (.bool (!extF m G a b))).put (some 45) (.pointer (some ⟨rbw a, b, none⟩))) = ρ at *
              simp only [List.getElem_toArray, List.getElem_cons_zero, List.getElem_cons_succ]
              go_simp
            refine wpAnyH_done (by kernel_rfl) ?_ _
            subst hA0
            simp only [Act.put, List.setIfInBounds_toArray, List.set_cons_zero, List.set_cons_succ]
            have hA7 := hA6.congr (G := fillF (fun p q => extF n F p q && !extF m G p q) (extF n F) N a (b + 1)) (fun p q _ _ => congrFun (congrFun (fillF_put2 (G := fun p q => extF n F p q && !extF m G p q) (by rw [hv, Bool.true_and])) p) q)
            clear hA6 hS s2 fz
            go_wp2_with fail
            refine ⟨⟨b + 1, by omega, by go_num, hA7⟩, by simp [intOf]; omega⟩
        · have e : N = b := by omega
          subst e
          rw [fillF_row] at hA
          go_wp2_with fail
          refine ⟨⟨a + 1, by omega, by go_num, hA⟩, by simp [intOf]; omega⟩
    · have e : N = a := by omega
      subst e
      have hA := hA.congr (G := fun p q => extF n F p q && !extF m G p q) (fun p q hp hq => by exact fillF_full hp hq)
      have b0 := hA.box.cell (j := 0) rfl
      have b1 := hA.box.cell (j := 1) rfl
      have hr := hA.trd
      have d0 := hr.cell (j := 0) rfl
      have d1 := hr.cell (j := 1) rfl
      have f0 := hr.frozen 0
      have f1 := hr.frozen 1
      go_wp2_with fail
      have hres := (hr.set 0 (.int .i64 ((N : Nat) : Int))).set 1 (.slice x2 y2 z2)
      simp only [List.setIfInBounds_toArray, List.set_cons_zero, List.set_cons_succ] at hres
      (try simp only [Exit.inBlock, Exit.then])
      refine bodyPost_ret (ret_ref rfl rfl hres) rfl ?_
      obtain ⟨hA1, hB1⟩ := hA.answer (r := 2) (by omega)
      first | exact ⟨_, rbw, rfl, hA1, hB1⟩ | exact ⟨_, rfl, ⟨rbw, hA1⟩, hB1⟩
end Go.Proofs.YtmmgdeoballhpaaDoor
/- Of RefPlus, what this seat can build. -/
namespace Go.Proofs.YtmmgdeoballhpaaDoor
open Go.RowKit Go.Shelf Sx

theorem ext_in {n p q : Nat} {F : Nat → Nat → Bool} (hp : p < n) (hq : q < n) : extF n F p q = F p q := by
  unfold extF
  simp [hp, hq]
def plusFn (F : Nat → Nat → Bool) : Nat → Nat → Nat → Bool
  | 0 => F
  | k + 1 => fun p q => plusFn F k p q || (plusFn F k p k && plusFn F k k q)
theorem plusFn_succ (F : Nat → Nat → Bool) (k p q : Nat) : plusFn F (k + 1) p q = (plusFn F k p q || (plusFn F k p k && plusFn F k k q)) := rfl
theorem plusFn_col (F : Nat → Nat → Bool) (k p : Nat) : plusFn F (k + 1) p k = plusFn F k p k := by
  rw [plusFn_succ]
  cases plusFn F k p k <;> simp
theorem plusFn_row (F : Nat → Nat → Bool) (k q : Nat) : plusFn F (k + 1) k q = plusFn F k k q := by
  rw [plusFn_succ]
  cases plusFn F k k q <;> simp
theorem fill_col (F : Nat → Nat → Bool) (N k p q x : Nat) : fillF (plusFn F (k + 1)) (plusFn F k) N p q x k = plusFn F k x k := by
  unfold fillF
  split
  · exact plusFn_col F k x
  · rfl
theorem fill_row (F : Nat → Nat → Bool) (N k p q y : Nat) : fillF (plusFn F (k + 1)) (plusFn F k) N p q k y = plusFn F k k y := by
  unfold fillF
  split
  · exact plusFn_row F k y
  · rfl
theorem fill_still (F : Nat → Nat → Bool) (N k p : Nat) (h : plusFn F k p k = false) (x y : Nat) : fillF (plusFn F (k + 1)) (plusFn F k) N p 0 x y = fillF (plusFn F (k + 1)) (plusFn F k) N (p + 1) 0 x y := by
  unfold fillF
  by_cases h1 : x < p ∧ y < N
  · rw [if_pos (by omega), if_pos (by omega)]
  · rw [if_neg (by omega)]
    by_cases h2 : x = p ∧ y < N
    · rw [if_pos (by omega), plusFn_succ, h2.1, h]
      simp
    · rw [if_neg (by omega)]
set_option maxRecDepth 100000 in
set_option maxHeartbeats 8000000 in
theorem refPlus_calls (lo N : Nat) (hN : N ≤ 256) (x : Option Addr) (y z : Nat) (rb : Nat → Nat) (F : Nat → Nat → Bool) (w : World) (h : RefM lo w (.slice x y z) N N rb F) :
    Calls Tryd.prog 55 #[.agg #[.int .i64 ((N : Nat) : Int), .slice x y z]] w fun e w' => ∃ M rb', e = .returned (.agg #[.int .i64 ((N : Nat) : Int), M]) ∧ RefM w.heap.size w' M N N rb' (plusFn F N) ∧ Below w.heap.size w w' := by
  have HN : Hid (N = max N 0) := by show _ = _; omega
  go_enter Tryd.func55, Tryd.ntmps55
  go_wp2_with fail
  refine (refWide_at lo N hN x y z rb F 0 N (by omega) HN _ ((h.alloc _).alloc _)).mono ?_
  rintro e w1 ⟨M, rbw, rfl, hRM, hB1⟩
  obtain ⟨x2, y2, z2, rfl⟩ := hRM.slice
  have hA : MkAt w (w1.alloc (.cells #[.int .i64 ((N : Nat) : Int), .slice x2 y2 z2] 46)) 2 [(0, #[.int .i64 ((N : Nat) : Int), .slice x y z]), (1, #[.int .i64 0, .slice none 0 0])] w1.heap.size N (.slice x2 y2 z2) rbw (plusFn F 0) := by
    refine MkAt.begin (((Below.refl _ w).alloc (Nat.le_refl _) _).alloc (by simp) _) (by simp) ?_ (hRM.congr fun p q hp hq => ?_) hB1
    · intro x hx
      simp only [List.mem_cons, List.not_mem_nil, or_false] at hx
      rcases hx with rfl | rfl
      · exact ⟨by omega, (Blk.new w _ _).alloc _⟩
      · exact ⟨by omega, Blk.new2 w _ _ _⟩
    · rw [fill_ext, ext_in hp hq]
      rfl
  clear hRM hB1
  go_wp2_with fail
  generalize w1.heap.size = B at *
  go_loopw [4] (fun i wr => ∃ k, k ≤ N ∧ i = .int .i64 ((k : Nat) : Int) ∧ MkAt w wr 2 [(0, #[.int .i64 ((N : Nat) : Int), .slice x y z]), (1, #[.int .i64 0, .slice none 0 0])] B N (.slice x2 y2 z2) rbw (plusFn F k)) (fun i _ => N - (intOf i).toNat)
  case atStart => exact ⟨0, by omega, rfl, hA⟩
  case round =>
    clear hA
    obtain ⟨k, hk, rfl, hA⟩ := hrel
    have c0 := hA.box.cell (j := 0) rfl
    by_cases hlt : k < N
    · rw [← fillF_zero (plusFn F (k + 1)) (plusFn F k) N] at hA
      go_wp2_with fail
      clear c0
      go_loopw [5] (fun i wr => ∃ p, p ≤ N ∧ i = .int .i64 ((p : Nat) : Int) ∧ MkAt w wr 2 [(0, #[.int .i64 ((N : Nat) : Int), .slice x y z]), (1, #[.int .i64 0, .slice none 0 0])] B N (.slice x2 y2 z2) rbw (fillF (plusFn F (k + 1)) (plusFn F k) N p 0)) (fun i _ => N - (intOf i).toNat)
      case atStart => exact ⟨0, by omega, rfl, hA⟩
      case round =>
        clear hA
        obtain ⟨p, hp, rfl, hA⟩ := hrel
        have c0 := hA.box.cell (j := 0) rfl
        by_cases hlt2 : p < N
        · cases hv : plusFn F k p k
          · have hA2 := hA.congr (fun x y _ _ => fill_still F N k p hv x y)
            have Hv : Hid (plusFn F k p k = false) := hv
            clear hA hv
            go_wp2_with fail
            clear c0
            go_loopw [6] (fun i wr => i = .int .i64 0 ∧ MkAt w wr 2 [(0, #[.int .i64 ((N : Nat) : Int), .slice x y z]), (1, #[.int .i64 0, .slice none 0 0])] B N (.slice x2 y2 z2) rbw (fillF (plusFn F (k + 1)) (plusFn F k) N (p + 1) 0)) (fun _ _ => 0)
            case atStart => exact ⟨rfl, hA2⟩
            case round =>
              clear hA2
              obtain ⟨rfl, hA⟩ := hrel
              have d1 := hA.box.cell (j := 1) rfl
              obtain ⟨g2, cap2, e2, _, _, _, s0, s1, _, _⟩ := hA.ref.at_ (p := p) (q := k) hlt2 hlt
              cases e2
              rw [fill_col, Hv.out] at s1
              go_wp2_with fail
              refine ⟨⟨p + 1, by omega, by go_num, hA⟩, by simp [intOf]; omega⟩
          · have Hv : Hid (plusFn F k p k = true) := hv
            clear hv
            go_wp2_with fail
            clear c0
            go_loopw [6] (fun i wr => ∃ q, q ≤ N ∧ i = .int .i64 ((q : Nat) : Int) ∧ MkAt w wr 2 [(0, #[.int .i64 ((N : Nat) : Int), .slice x y z]), (1, #[.int .i64 0, .slice none 0 0])] B N (.slice x2 y2 z2) rbw (fillF (plusFn F (k + 1)) (plusFn F k) N p q)) (fun i _ => N - (intOf i).toNat)
            case atStart => exact ⟨0, by omega, rfl, hA⟩
            case round =>
              clear hA
              obtain ⟨q, hq, rfl, hA⟩ := hrel
              have c0 := hA.box.cell (j := 0) rfl
              have d1 := hA.box.cell (j := 1) rfl
              obtain ⟨g2, cap2, e2, _, _, _, s0, s1, _, _⟩ := hA.ref.at_ (p := p) (q := k) hlt2 hlt
              rw [fill_col, Hv.out] at s1
              by_cases hlt3 : q < N
              · obtain ⟨g3, cap3, e3, _, _, _, t0, t1, _, _⟩ := hA.ref.at_ (p := k) (q := q) hlt hlt3
                obtain ⟨g4, cap4, e4, _, _, n4, u0, u1, fz, _⟩ := hA.ref.at_ (p := p) (q := q) hlt2 hlt3
                cases e2
                cases e3
                cases e4
                rw [fill_row] at t1
                rw [fillF_at] at u1
                have hval : plusFn F (k + 1) p q = (plusFn F k p q || plusFn F k k q) := by rw [plusFn_succ, Hv.out, Bool.true_and]
                have hA2 := hA.drew.put (p := p) (q := q) hlt2 hlt3 (plusFn F k p q || plusFn F k k q)
                rw [← hval, fillF_put] at hA2
                cases hu : plusFn F k p q
                · rw [hval, hu, Bool.false_or] at hA2
                  rw [hu] at u1
                  clear hval hu
                  go_wp2_with fail
                  go_region
                  all_goals
                    go_wp2_with fail
                    refine ⟨⟨q + 1, by omega, by go_num, hA2⟩, by simp [intOf]; omega⟩
                · rw [hval, hu, Bool.true_or] at hA2
                  rw [hu] at u1
                  clear hval hu
                  go_wp2_with fail
                  go_region
                  all_goals
                    go_wp2_with fail
                    refine ⟨⟨q + 1, by omega, by go_num, hA2⟩, by simp [intOf]; omega⟩
              · have e : N = q := by omega
                subst e
                cases e2
                rw [fillF_row] at hA
                go_wp2_with fail
                refine ⟨⟨p + 1, by omega, by go_num, hA⟩, by simp [intOf]; omega⟩
        · have e : N = p := by omega
          subst e
          have hA2 := hA.congr (G := plusFn F (k + 1)) (fun x y hx hy => fillF_full hx hy)
          go_wp2_with fail
          refine ⟨⟨k + 1, by omega, by go_num, hA2⟩, by simp [intOf]; omega⟩
    · have e : N = k := by omega
      subst e
      have b1 := hA.box.cell (j := 1) rfl
      have hr := hA.snd
      have d0 := hr.cell (j := 0) rfl
      have d1 := hr.cell (j := 1) rfl
      have f0 := hr.frozen 0
      have f1 := hr.frozen 1
      go_wp2_with fail
      have hres := (hr.set 0 (.int .i64 ((N : Nat) : Int))).set 1 (.slice x2 y2 z2)
      simp only [List.setIfInBounds_toArray, List.set_cons_zero, List.set_cons_succ] at hres
      (try simp only [Exit.inBlock, Exit.then])
      refine bodyPost_ret (ret_ref rfl rfl hres) rfl ?_
      obtain ⟨hA1, hB1⟩ := hA.answer (r := 1) (by omega)
      first | exact ⟨_, rbw, rfl, hA1, hB1⟩ | exact ⟨_, rfl, ⟨rbw, hA1⟩, hB1⟩
end Go.Proofs.YtmmgdeoballhpaaDoor
/- Of RefSame, what this seat can build. -/
namespace Go.Proofs.YtmmgdeoballhpaaDoor
open Go.RowKit Go.Shelf Sx Relation

/-- The table F and the rows L have the same pairs, of points below N. -/
def Same (N : Nat) (F : Nat → Nat → Bool) (L : List Nat) : Prop := ∀ p q, p < N → q < N → (F p q = true ↔ hs L p q)
section
variable {N : Nat} {F : Nat → Nat → Bool} {L : List Nat}
theorem same_plusN (h : Same N F L) (hl : L.length = N) (k : Nat) (hk : k ≤ N) : Same N (plusFn F k) (plusN L k) := by
  induction k with
  | zero => exact h
  | succ k ih =>
    intro p q hp hq
    have ih := ih (by omega)
    rw [plusFn_succ, Bool.or_eq_true, Bool.and_eq_true, plusN_step hl, ih p q hp hq, ih p k hp (by omega), ih k q (by omega) hq]
theorem same_plus (h : Same N F L) (hl : L.length = N) : Same N (plusFn F N) (plusL L) := by
  have := same_plusN h hl N (Nat.le_refl _)
  unfold plusL
  rw [hl]
  exact this
end
end Go.Proofs.YtmmgdeoballhpaaDoor
/- The contract of the document's own Comp. -/
namespace Go.Proofs.YtmmgdeoballhpaaDoor
open Go.RowKit Go.Shelf Sx

def cmpF (X Y : Nat → Nat → Bool) : Nat → Nat → Nat → Bool
  | 0 => fun _ _ => false
  | q + 1 => fun p s => cmpF X Y q p s || (X p q && Y q s)
theorem cmpF_succ (X Y : Nat → Nat → Bool) (q p s : Nat) : cmpF X Y (q + 1) p s = (cmpF X Y q p s || (X p q && Y q s)) := rfl
def rowsF (X Y : Nat → Nat → Bool) (N p q : Nat) : Nat → Nat → Bool := fun x y => if x < p then cmpF X Y N x y else if x = p then cmpF X Y q x y else false
theorem rowsF_zero (X Y : Nat → Nat → Bool) (N x y : Nat) : rowsF X Y N 0 0 x y = false := by
  unfold rowsF
  rw [if_neg (by omega)]
  split <;> rfl
theorem rowsF_still (X Y : Nat → Nat → Bool) (N p q : Nat) (h : X p q = false) (x y : Nat) : rowsF X Y N p q x y = rowsF X Y N p (q + 1) x y := by
  unfold rowsF
  by_cases h1 : x < p
  · rw [if_pos h1, if_pos h1]
  · rw [if_neg h1, if_neg h1]
    by_cases h2 : x = p
    · subst h2
      rw [if_pos rfl, if_pos rfl, cmpF_succ, h]
      simp
    · rw [if_neg h2, if_neg h2]
theorem rowsF_next (X Y : Nat → Nat → Bool) (N p x y : Nat) : rowsF X Y N p N x y = rowsF X Y N (p + 1) 0 x y := by
  unfold rowsF
  by_cases h1 : x < p
  · rw [if_pos h1, if_pos (by omega)]
  · rw [if_neg h1]
    by_cases h2 : x = p
    · subst h2
      rw [if_pos rfl, if_pos (by omega)]
    · rw [if_neg h2, if_neg (by omega)]
      split <;> rfl
theorem rowsF_filled (X Y : Nat → Nat → Bool) (N p q x y : Nat) (hy : y < N) : fillF (cmpF X Y (q + 1)) (rowsF X Y N p q) 0 p N x y = rowsF X Y N p (q + 1) x y := by
  unfold fillF rowsF
  by_cases h1 : x < p
  · rw [if_neg (by omega), if_pos h1, if_pos h1]
  · by_cases h2 : x = p
    · subst h2
      rw [if_pos (by omega), if_neg h1, if_pos rfl]
    · rw [if_neg (by omega), if_neg h1, if_neg h1, if_neg h2, if_neg h2]
theorem rowsF_here (X Y : Nat → Nat → Bool) (N p q s : Nat) : rowsF X Y N p q p s = cmpF X Y q p s := by
  unfold rowsF
  rw [if_neg (by omega), if_pos rfl]

structure CompB (w W : World) (bx bY N : Nat) (M1 M2 : Value) (r1 r2 : Nat → Nat) (X Y : Nat → Nat → Bool) : Prop where
  below : Below w.heap.size w W
  res : Blk W (w.heap.size + 2) 46 #[.int .i64 0, .slice none 0 0]
  hx : Blk W bx 46 #[.int .i64 ((N : Nat) : Int), M1]
  hy : Blk W bY 46 #[.int .i64 ((N : Nat) : Int), M2]
  rx : RefM 0 W M1 N N r1 X
  ry : RefM 0 W M2 N N r2 Y
theorem CompB.step {w W W' : World} {bx bY N : Nat} {M1 M2 : Value} {r1 r2 : Nat → Nat} {X Y : Nat → Nat → Bool} (h : CompB w W bx bY N M1 M2 r1 r2 X Y) (hB : Below W.heap.size W W') : CompB w W' bx bY N M1 M2 r1 r2 X Y :=
  ⟨below_step h.below h.below.size hB, h.res.of_below hB, h.hx.of_below hB, h.hy.of_below hB, h.rx.below hB, h.ry.below hB⟩

set_option maxRecDepth 100000 in
set_option maxHeartbeats 8000000 in
theorem refComp_calls (lo lo2 n m N : Nat) (hn : n ≤ 256) (hm : m ≤ 256) (HN : Hid (N = max n m)) (x : Option Addr) (y z : Nat) (rb : Nat → Nat) (F : Nat → Nat → Bool) (x1 : Option Addr) (y1 z1 : Nat) (rb1 : Nat → Nat) (G : Nat → Nat → Bool) (w : World) (h : RefM lo w (.slice x y z) n n rb F) (h1 : RefM lo2 w (.slice x1 y1 z1) m m rb1 G) :
    Calls Tryd.prog 58 #[.agg #[.int .i64 ((n : Nat) : Int), .slice x y z], .agg #[.int .i64 ((m : Nat) : Int), .slice x1 y1 z1]] w fun e w' => ∃ M rb', e = .returned (.agg #[.int .i64 ((N : Nat) : Int), M]) ∧ RefM w.heap.size w' M N N rb' (cmpF (extF n F) (extF m G) N) ∧ Below w.heap.size w w' := by
  have hN : N ≤ 256 := by have := HN.out; omega
  have HN2 : Hid (N = max m n) := by show _ = _; have := HN.out; omega
  have hW0 : Below w.heap.size w (((w.alloc (.cells #[.int .i64 ((n : Nat) : Int), .slice x y z] 46)).alloc (.cells #[.int .i64 ((m : Nat) : Int), .slice x1 y1 z1] 46)).alloc (.cells #[.int .i64 0, .slice none 0 0] 46)) := (((Below.refl _ w).alloc (Nat.le_refl _) _).alloc (by simp) _).alloc (by simp; omega) _
  go_enter Tryd.func58, Tryd.ntmps58
  go_wp2_with fail
  refine (refWide_at lo n hn x y z rb F m N hm HN _ (((h.alloc _).alloc _).alloc _)).mono ?_
  rintro e w1 ⟨M1, r1, rfl, hR1, hB1⟩
  obtain ⟨x2, y2, z2, rfl⟩ := hR1.slice
  have ba := (((((Blk.new w 46 #[.int .i64 ((n : Nat) : Int), .slice x y z]).alloc (.cells #[.int .i64 ((m : Nat) : Int), .slice x1 y1 z1] 46)).alloc (.cells #[.int .i64 0, .slice none 0 0] 46)).of_below hB1).alloc (.cells #[.int .i64 ((N : Nat) : Int), .slice x2 y2 z2] 46))
  have bb := ((((Blk.new2 w (.cells #[.int .i64 ((n : Nat) : Int), .slice x y z] 46) 46 #[.int .i64 ((m : Nat) : Int), .slice x1 y1 z1]).alloc (.cells #[.int .i64 0, .slice none 0 0] 46)).of_below hB1).alloc (.cells #[.int .i64 ((N : Nat) : Int), .slice x2 y2 z2] 46))
  have br := ((Blk.new3 w (.cells #[.int .i64 ((n : Nat) : Int), .slice x y z] 46) (.cells #[.int .i64 ((m : Nat) : Int), .slice x1 y1 z1] 46) 46 #[.int .i64 0, .slice none 0 0]).of_below hB1).alloc (.cells #[.int .i64 ((N : Nat) : Int), .slice x2 y2 z2] 46)
  have bx := Blk.new w1 46 #[.int .i64 ((N : Nat) : Int), .slice x2 y2 z2]
  have hW1 := below_step hW0 hW0.size hB1
  have hW1a := hW1.alloc hW1.size (.cells #[.int .i64 ((N : Nat) : Int), .slice x2 y2 z2] 46)
  have rX := ((hR1.congr (G := extF n F) (fun p q _ _ => fill_ext n F p q)).mono (Nat.zero_le _)).alloc (.cells #[.int .i64 ((N : Nat) : Int), .slice x2 y2 z2] 46)
  have h1a := h1.below hW1a
  clear hR1 hB1 hW0 hW1
  have a0 := ba.cell (j := 0) rfl
  have b0 := bb.cell (j := 0) rfl
  have b1 := bb.cell (j := 1) rfl
  go_wp2_with fail
  generalize hw1a : w1.alloc (.cells #[.int .i64 ((N : Nat) : Int), .slice x2 y2 z2] 46) = W1 at *
  generalize w1.heap.size = BX at *
  refine (refWide_at lo2 m hm x1 y1 z1 rb1 G n N hn HN2 _ h1a).mono ?_
  rintro e w2 ⟨M2, r2, rfl, hR2, hB2⟩
  obtain ⟨x3, y3, z3, rfl⟩ := hR2.slice
  have hW2 := below_step hW1a hW1a.size hB2
  have hC : CompB w (w2.alloc (.cells #[.int .i64 ((N : Nat) : Int), .slice x3 y3 z3] 46)) BX w2.heap.size N (.slice x2 y2 z2) (.slice x3 y3 z3) r1 r2 (extF n F) (extF m G) :=
    ⟨hW2.alloc hW2.size _, (br.of_below hB2).alloc _, (bx.of_below hB2).alloc _, Blk.new _ _ _, (rX.below hB2).alloc _, ((hR2.congr (G := extF m G) (fun p q _ _ => fill_ext m G p q)).mono (Nat.zero_le _)).alloc _⟩
  clear ba bb br bx hW1a rX h1a hR2 hB2 hW2 a0 b0 b1 h h1
  have a0 := hC.hx.cell (j := 0) rfl
  go_wp2_with fail
  generalize w2.alloc (.cells #[.int .i64 ((N : Nat) : Int), .slice x3 y3 z3] 46) = w3 at *
  generalize w2.heap.size = BY at *
  clear a0
  refine (refNew_mid N hN _).mono ?_
  rintro e w4 ⟨M, rbw, rfl, hRM, hB4⟩
  obtain ⟨x4, y4, z4, rfl⟩ := hRM.slice
  have hA : MkAt w3 (w4.alloc (.cells #[.int .i64 ((N : Nat) : Int), .slice x4 y4 z4] 46)) 0 [] w4.heap.size N (.slice x4 y4 z4) rbw (rowsF (extF n F) (extF m G) N 0 0) :=
    MkAt.begin (Below.refl _ _) (by simp) (fun x hx => by cases hx) (hRM.congr fun p q hp hq => (rowsF_zero _ _ N p q).symm) hB4
  clear hRM hB4
  go_wp2_with fail
  generalize w4.heap.size = B at *
  go_loopw [8] (fun i wr => ∃ p, p ≤ N ∧ i = .int .i64 ((p : Nat) : Int) ∧ MkAt w3 wr 0 [] B N (.slice x4 y4 z4) rbw (rowsF (extF n F) (extF m G) N p 0)) (fun i _ => N - (intOf i).toNat)
  case atStart => exact ⟨0, by omega, rfl, hA⟩
  case round =>
    clear hA
    obtain ⟨p, hp, rfl, hA⟩ := hrel
    have c0 := hA.box.cell (j := 0) rfl
    by_cases hlt : p < N
    · go_wp2_with fail
      clear c0
      go_loopw [9] (fun i wr => ∃ q, q ≤ N ∧ i = .int .i64 ((q : Nat) : Int) ∧ MkAt w3 wr 0 [] B N (.slice x4 y4 z4) rbw (rowsF (extF n F) (extF m G) N p q)) (fun i _ => N - (intOf i).toNat)
      case atStart => exact ⟨0, by omega, rfl, hA⟩
      case round =>
        clear hA
        obtain ⟨q, hq, rfl, hA⟩ := hrel
        have c0 := hA.box.cell (j := 0) rfl
        by_cases hlt2 : q < N
        · cases hv : extF n F p q
          · have hA2 := hA.congr (fun x y _ _ => rowsF_still (extF n F) (extF m G) N p q hv x y)
            have Hv : Hid (extF n F p q = false) := hv
            clear hA hv
            go_wp2_with fail
            clear c0
            go_loopw [10] (fun i wr => i = .int .i64 0 ∧ MkAt w3 wr 0 [] B N (.slice x4 y4 z4) rbw (rowsF (extF n F) (extF m G) N p (q + 1))) (fun _ _ => 0)
            case atStart => exact ⟨rfl, hA2⟩
            case round =>
              clear hA2
              obtain ⟨rfl, hA⟩ := hrel
              have hC2 := hC.step hA.below
              have d1 := hC2.hx.cell (j := 1) rfl
              obtain ⟨g2, cap2, e2, _, _, _, s0, s1, _, _⟩ := hC2.rx.at_ (p := p) (q := q) hlt hlt2
              cases e2
              rw [Hv.out] at s1
              go_wp2_with fail
              refine ⟨⟨q + 1, by omega, by go_num, hA⟩, by simp [intOf]; omega⟩
          · have Hv : Hid (extF n F p q = true) := hv
            have hA2 : MkAt w3 _ 0 [] B N (.slice x4 y4 z4) rbw (fillF (cmpF (extF n F) (extF m G) (q + 1)) (rowsF (extF n F) (extF m G) N p q) 0 p 0) := hA.congr (fun x y _ _ => by unfold fillF; rw [if_neg (by omega)])
            clear hv hA
            go_wp2_with fail
            clear c0
            go_loopw [10] (fun i wr => ∃ s, s ≤ N ∧ i = .int .i64 ((s : Nat) : Int) ∧ MkAt w3 wr 0 [] B N (.slice x4 y4 z4) rbw (fillF (cmpF (extF n F) (extF m G) (q + 1)) (rowsF (extF n F) (extF m G) N p q) 0 p s)) (fun i _ => N - (intOf i).toNat)
            case atStart => exact ⟨0, by omega, rfl, hA2⟩
            case round =>
              clear hA2
              obtain ⟨s, hs, rfl, hA⟩ := hrel
              have hC2 := hC.step hA.below
              have c0 := hA.box.cell (j := 0) rfl
              have d1 := hC2.hx.cell (j := 1) rfl
              obtain ⟨g2, cap2, e2, _, _, _, s0, s1, _, _⟩ := hC2.rx.at_ (p := p) (q := q) hlt hlt2
              rw [Hv.out] at s1
              by_cases hlt3 : s < N
              · have k1 := hC2.hy.cell (j := 1) rfl
                have m1 := hA.box.cell (j := 1) rfl
                obtain ⟨g3, cap3, e3, _, _, _, t0, t1, _, _⟩ := hC2.ry.at_ (p := q) (q := s) hlt2 hlt3
                obtain ⟨g4, cap4, e4, _, _, n4, u0, u1, fz, _⟩ := hA.ref.at_ (p := p) (q := s) hlt hlt3
                cases e2
                cases e3
                cases e4
                rw [fillF_at, rowsF_here] at u1
                have hval : cmpF (extF n F) (extF m G) (q + 1) p s = (cmpF (extF n F) (extF m G) q p s || extF m G q s) := by rw [cmpF_succ, Hv.out, Bool.true_and]
                have hA2 := hA.drew.put (p := p) (q := s) hlt hlt3 (cmpF (extF n F) (extF m G) q p s || extF m G q s)
                rw [← hval, fillF_put] at hA2
                cases hu : cmpF (extF n F) (extF m G) q p s
                · rw [hval, hu, Bool.false_or] at hA2
                  rw [hu] at u1
                  clear hval hu
                  go_wp2_with fail
                  go_region
                  all_goals
                    go_wp2_with fail
                    refine ⟨⟨s + 1, by omega, by go_num, hA2⟩, by simp [intOf]; omega⟩
                · rw [hval, hu, Bool.true_or] at hA2
                  rw [hu] at u1
                  clear hval hu
                  go_wp2_with fail
                  go_region
                  all_goals
                    go_wp2_with fail
                    refine ⟨⟨s + 1, by omega, by go_num, hA2⟩, by simp [intOf]; omega⟩
              · have e : N = s := by omega
                subst e
                cases e2
                have hA2 := hA.congr (fun x y _ hy => rowsF_filled (extF n F) (extF m G) N p q x y hy)
                go_wp2_with fail
                refine ⟨⟨q + 1, by omega, by go_num, hA2⟩, by simp [intOf]; omega⟩
        · have e : N = q := by omega
          subst e
          have hA2 := hA.congr (fun x y _ _ => rowsF_next (extF n F) (extF m G) N p x y)
          go_wp2_with fail
          refine ⟨⟨p + 1, by omega, by go_num, hA2⟩, by simp [intOf]; omega⟩
    · have e : N = p := by omega
      subst e
      have hA := hA.congr (G := cmpF (extF n F) (extF m G) N) (fun x y hx _ => by unfold rowsF; rw [if_pos hx])
      have hC2 := hC.step hA.below
      have b1 := hA.box.cell (j := 1) rfl
      have hr := hC2.res
      have d0 := hr.cell (j := 0) rfl
      have d1 := hr.cell (j := 1) rfl
      have f0 := hr.frozen 0
      have f1 := hr.frozen 1
      go_wp2_with fail
      have hres := (hr.set 0 (.int .i64 ((N : Nat) : Int))).set 1 (.slice x4 y4 z4)
      simp only [List.setIfInBounds_toArray, List.set_cons_zero, List.set_cons_succ] at hres
      (try simp only [Exit.inBlock, Exit.then])
      refine bodyPost_ret (ret_ref rfl rfl hres) rfl ?_
      have hl := hC.res.lt
      have hA1 : RefM w.heap.size ((_ : World).setCell ⟨w.heap.size + 2, 0, none⟩ (.int .i64 ((N : Nat) : Int)) |>.setCell ⟨w.heap.size + 2, 1, none⟩ (.slice x4 y4 z4)) (.slice x4 y4 z4) N N rbw (cmpF (extF n F) (extF m G) N) := RefM.mono (hA.ref.below' fun g hg _ => by rw [Below.heap_setCell _ _ _ _ (by simp; omega), Below.heap_setCell _ _ _ _ (by simp; omega)]) (by omega)
      have hB1 := (hC2.below.setCell (p := ⟨w.heap.size + 2, 0, none⟩) (by simp) (.int .i64 ((N : Nat) : Int))).setCell (p := ⟨w.heap.size + 2, 1, none⟩) (by simp) (.slice x4 y4 z4)
      first | exact ⟨_, rbw, rfl, hA1, hB1⟩ | exact ⟨_, rfl, ⟨rbw, hA1⟩, hB1⟩
end Go.Proofs.YtmmgdeoballhpaaDoor
/- Of RefLook, what this seat can build. -/
namespace Go.Proofs.YtmmgdeoballhpaaDoor
open Go.RowKit Go.Shelf Sx

def irrF (n : Nat) (F : Nat → Nat → Bool) : Bool := (List.range n).all fun p => !F p p
theorem irrF_false {n p : Nat} {F : Nat → Nat → Bool} (hp : p < n) (h : F p p = true) : irrF n F = false := by
  unfold irrF
  rw [List.all_eq_false]
  exact ⟨p, by simpa using hp, by simp [h]⟩
theorem irrF_true {n : Nat} {F : Nat → Nat → Bool} (h : ∀ p, p < n → F p p = false) : irrF n F = true := by
  unfold irrF
  rw [List.all_eq_true]
  intro p hp
  simp [h p (by simpa using hp)]
set_option maxHeartbeats 1000000 in
theorem refIrr_calls (lo n : Nat) (hn : n ≤ 256) (x : Option Addr) (y z : Nat) (rb : Nat → Nat) (F : Nat → Nat → Bool) (w : World) (h : RefM lo w (.slice x y z) n n rb F) (v : Bool) (Hv : Hid (irrF n F = v)) :
    Calls Tryd.prog 56 #[.agg #[.int .i64 ((n : Nat) : Int), .slice x y z]] w fun e w' => e = .returned (.bool v) ∧ Below w.heap.size w w' := by
  have hB0 : Below w.heap.size w (w.alloc (.cells #[.int .i64 ((n : Nat) : Int), .slice x y z] 46)) := (Below.refl _ _).alloc (Nat.le_refl _) _
  have hb0 := Blk.new w 46 #[.int .i64 ((n : Nat) : Int), .slice x y z]
  have h0 := h.below hB0
  go_enter Tryd.func56, Tryd.ntmps56
  go_wp2_with fail
  generalize w.alloc (.cells #[.int .i64 ((n : Nat) : Int), .slice x y z] 46) = W at *
  have c0 := hb0.cell (j := 0) rfl
  have c1 := hb0.cell (j := 1) rfl
  go_loopw [3] (fun i wr => ∃ k, k ≤ n ∧ i = .int .i64 ((k : Nat) : Int) ∧ wr = W ∧ Hid (∀ p, p < k → F p p = false)) (fun i _ => n - (intOf i).toNat)
  case atStart => exact ⟨0, by omega, rfl, rfl, fun p hp => by omega⟩
  case round =>
    obtain ⟨k, hk, rfl, rfl, HF⟩ := hrel
    by_cases hlt : k < n
    · obtain ⟨g, cap, e, _, _, _, d0, d1, _, _⟩ := h0.at_ hlt hlt
      cases e
      cases hf : F k k
      · rw [hf] at d1
        have HF2 : Hid (∀ p, p < k + 1 → F p p = false) := by
          intro p hp
          by_cases e : p = k
          · rw [e]; exact hf
          · exact HF.out p (by omega)
        clear hf
        go_wp2_with fail
        refine ⟨⟨k + 1, by omega, by go_num, by first | rfl | trivial, HF2⟩, by simp [intOf]; omega⟩
      · rw [hf] at d1
        obtain rfl : v = false := by rw [← Hv.out]; exact irrF_false hlt hf
        clear hf
        go_wp2_with fail
        go_ret
        exact ⟨rfl, hB0⟩
    · have e : n = k := by omega
      subst e
      obtain rfl : v = true := by rw [← Hv.out]; exact irrF_true HF.out
      go_wp2_with fail
      go_ret
      exact ⟨rfl, hB0⟩
end Go.Proofs.YtmmgdeoballhpaaDoor
/- The contract of the document's own Pairs. -/
namespace Go.Proofs.YtmmgdeoballhpaaDoor
open Go.RowKit Go.Shelf Sx

def prsRow (F : Nat → Nat → Bool) (p q : Nat) : List (Nat × Nat) := ((List.range q).filter (F p)).map (fun y => (p, y))
def prsF (n : Nat) (F : Nat → Nat → Bool) (p q : Nat) : List (Nat × Nat) := (List.range p).flatMap (fun x => prsRow F x n) ++ prsRow F p q
theorem prsRow_succ (F : Nat → Nat → Bool) (p q : Nat) : prsRow F p (q + 1) = prsRow F p q ++ (if F p q then [(p, q)] else []) := by
  unfold prsRow
  rw [List.range_succ, List.filter_append, List.map_append]
  congr 1
  cases h : F p q <;> simp [h]
theorem prsF_yes {n : Nat} {F : Nat → Nat → Bool} {p q : Nat} (h : F p q = true) : prsF n F p (q + 1) = prsF n F p q ++ [(p, q)] := by
  unfold prsF
  rw [prsRow_succ, h, if_pos rfl, List.append_assoc]
theorem prsF_no {n : Nat} {F : Nat → Nat → Bool} {p q : Nat} (h : F p q = false) : prsF n F p (q + 1) = prsF n F p q := by
  unfold prsF
  rw [prsRow_succ, h]
  simp
theorem prsF_next (n : Nat) (F : Nat → Nat → Bool) (p : Nat) : prsF n F p n = prsF n F (p + 1) 0 := by
  unfold prsF
  rw [List.range_succ, List.flatMap_append]
  simp [prsRow]

structure PrAt (w W : World) (n : Nat) (A v : Value) (l : List (Nat × Nat)) : Prop where
  below : Below w.heap.size w W
  box : Blk W w.heap.size 46 #[.int .i64 ((n : Nat) : Int), A]
  own : W.ownsRow (w.heap.size + 1) 37 2 v l.length (encPs l)
theorem PrAt.more {w W W' : World} {n : Nat} {A v v' : Value} {l : List (Nat × Nat)} {a b : Nat} (h : PrAt w W n A v l)
    (hown : W'.ownsRow (w.heap.size + 1) 37 2 v' (l.length + 1) (encPs l ++ [.int .i64 ((a : Nat) : Int), .int .i64 ((b : Nat) : Int)]))
    (hg : (W.alloc (.cells #[.int .i64 ((a : Nat) : Int), .int .i64 ((b : Nat) : Int)] 37)).grownBy W' v.ownBlock) : PrAt w W' n A v' (l ++ [(a, b)]) := by
  have hlt := h.box.lt
  refine ⟨(h.below.alloc h.below.size _).grown hg (by simp; omega) (fun k e => by have := (h.own.lt k e).1; omega), ?_, ?_⟩
  · exact (hg.block _ (by simp; omega) (fun e => by have := (h.own.lt _ e.symm).1; omega)).trans (h.box.alloc _)
  · rw [encPs_snoc, List.length_append]
    exact hown

theorem owns_lower {w : World} {base base' : Nat} {e : TypeId} {size : Nat} {v : Value} {n : Nat} {xs : List Value} (h : w.ownsRow base e size v n xs) (hb : base' ≤ base) : w.ownsRow base' e size v n xs := by
  refine ⟨h.1, ?_⟩
  rcases h.2 with h2 | ⟨g, cap, cur, e1, e2, e3⟩
  · exact .inl h2
  · exact .inr ⟨g, cap, cur, e1, Nat.le_trans hb e2, e3⟩
set_option maxRecDepth 100000 in
set_option maxHeartbeats 4000000 in
theorem refPairs_calls (lo n : Nat) (hn : n ≤ 256) (x : Option Addr) (y z : Nat) (rb : Nat → Nat) (F : Nat → Nat → Bool) (w : World) (h : RefM lo w (.slice x y z) n n rb F) :
    Calls Tryd.prog 34 #[.agg #[.int .i64 ((n : Nat) : Int), .slice x y z]] w fun e w' => ∃ v, e = .returned v ∧ w'.ownsRow w.heap.size 37 2 v (prsF n F n 0).length (encPs (prsF n F n 0)) ∧ Below w.heap.size w w' := by
  obtain ⟨i0, hi, hz0, hz1, hz2⟩ := info_parts Tryd.infopair
  have hA : PrAt w (w.alloc (.cells #[.int .i64 ((n : Nat) : Int), .slice x y z] 46)) n (.slice x y z) (.slice none 0 0) [] :=
    ⟨(Below.refl _ _).alloc (Nat.le_refl _) _, Blk.new _ _ _, World.ownsRow_nil _ _ _ _⟩
  go_enter Tryd.func34, Tryd.ntmps34
  go_wp2_with fail
  go_loopw [3, 4] (fun v i wr => ∃ p l, p ≤ n ∧ i = .int .i64 ((p : Nat) : Int) ∧ PrAt w wr n (.slice x y z) v l ∧ Hid (l = prsF n F p 0) ∧ l.length ≤ p * 256) (fun _ i _ => n - (intOf i).toNat)
  case atStart => exact ⟨0, [], by omega, rfl, hA, rfl, by simp⟩
  case round =>
    clear hA
    obtain ⟨p, l, hp, rfl, hA, HL, hlen⟩ := hrel
    have c0 := hA.box.cell (j := 0) rfl
    by_cases hlt : p < n
    · go_wp2_with fail
      clear c0
      go_loopw [3, 5] (fun v i wr => ∃ q l, q ≤ n ∧ i = .int .i64 ((q : Nat) : Int) ∧ PrAt w wr n (.slice x y z) v l ∧ Hid (l = prsF n F p q) ∧ l.length ≤ p * 256 + q) (fun _ i _ => n - (intOf i).toNat)
      case atStart => exact ⟨0, l, by omega, rfl, hA, HL, by omega⟩
      case round =>
        clear hA HL hlen
        obtain ⟨q, l, hq, rfl, hA, HL, hlen⟩ := hrel
        have c0 := hA.box.cell (j := 0) rfl
        by_cases hlt2 : q < n
        · have c1 := hA.box.cell (j := 1) rfl
          obtain ⟨g, cap, e, _, _, _, d0, d1, _, _⟩ := (h.below hA.below).at_ hlt hlt2
          cases e
          cases hf : F p q
          · rw [hf] at d1
            have HL2 : Hid (l = prsF n F p (q + 1)) := by show _ = _; rw [prsF_no hf]; exact HL.out
            clear hf
            go_wp2_with fail
            refine ⟨⟨q + 1, l, by omega, by go_num, hA, HL2, by omega⟩, by simp [intOf]; omega⟩
          · rw [hf] at d1
            have HL2 : Hid (l ++ [(p, q)] = prsF n F p (q + 1)) := by show _ = _; rw [prsF_yes hf, ← HL.out]
            clear hf
            have hlt4 := hA.box.lt
            go_wp2_with (at_builtin; refine wpList_append_own_at _ rfl _ _ 38 rfl (w.heap.size + 1) 37 i0 (.agg #[.int .i64 0, .int .i64 0]) 2 16 Tryd.underlying38 hi hz0 hz1 hz2 rfl (by decide) _ _ _ rfl (hA.own.alloc _) ⟨_, 0, none⟩ 1 1 [.int .i64 ((p : Nat) : Int), .int .i64 ((q : Nat) : Int)] rfl rfl (news_two _ _ _ _) (by simp [Value.oneCell']) (by unfold maxLen; omega) (by omega) (by simp; omega) ?_; intro v' w4 hown' hgrow _ hat)
            have hA2 := hA.more hown' hgrow
            refine ⟨⟨q + 1, l ++ [(p, q)], by omega, by go_num, hA2, HL2, by simp; omega⟩, by simp [intOf]; omega⟩
        · have e : n = q := by omega
          subst e
          have HL2 : Hid (l = prsF n F (p + 1) 0) := by show _ = _; rw [← prsF_next]; exact HL.out
          go_wp2_with fail
          refine ⟨⟨p + 1, l, by omega, by go_num, hA, HL2, by omega⟩, by simp [intOf]; omega⟩
    · have e : n = p := by omega
      subst e
      have ho := hA.own
      rw [HL.out] at ho
      go_wp2_with fail
      go_ret
      exact ⟨_, rfl, owns_lower ho (by omega), hA.below⟩
end Go.Proofs.YtmmgdeoballhpaaDoor
/- Of SameMath, what this seat can build. -/
namespace Go.Proofs.YtmmgdeoballhpaaDoor
open Go.RowKit Go.Shelf Sx Relation

/-- A table and rows of one length with the same pairs. -/
structure Twin (n : Nat) (F : Nat → Nat → Bool) (L : List Nat) : Prop where
  wf : WF n L
  same : Same n F L
section
variable {n m N : Nat} {F G : Nat → Nat → Bool} {A B : List Nat}
theorem Twin.ext (h : Twin n F A) (p q : Nat) : extF n F p q = true ↔ hs A p q := by
  unfold extF
  rw [Bool.and_eq_true, Bool.and_eq_true, decide_eq_true_eq, decide_eq_true_eq]
  constructor
  · rintro ⟨h1, h2, h3⟩
    exact (h.same p q h1 h2).1 h3
  · intro h1
    have h2 := hs_left h1
    rw [h.wf.len] at h2
    exact ⟨h2, h.wf.low _ _ h1, (h.same p q h2 (h.wf.low _ _ h1)).2 h1⟩
theorem Twin.low (h : Twin n F A) {p q : Nat} (h1 : hs A p q) : p < n ∧ q < n := by
  have h2 := hs_left h1
  rw [h.wf.len] at h2
  exact ⟨h2, h.wf.low _ _ h1⟩
/-- Rows whose pairs are told whole make a twin. -/
theorem Twin.mk' {L : List Nat} {H : Nat → Nat → Bool} (hl : L.length = N) (h1 : ∀ p q, hs L p q → q < N) (h2 : ∀ p q, p < N → q < N → (H p q = true ↔ hs L p q)) : Twin N H L := ⟨⟨hl, h1⟩, h2⟩
theorem twin_minus (ha : Twin n F A) (hb : Twin m G B) (HN : N = max n m) : Twin N (fun p q => extF n F p q && !extF m G p q) (minusL A B) := by
  have hl : max A.length B.length = N := by rw [ha.wf.len, hb.wf.len, HN]
  have key : ∀ p q, hs (minusL A B) p q ↔ hs A p q ∧ ¬ hs B p q := fun p q => by
    unfold minusL
    rw [hl, hs_fill (Nat.le_refl _), testBit_ldiff, Bool.and_eq_true, Bool.not_eq_true']
    unfold hs
    rw [Bool.not_eq_true]
    exact ⟨fun h => h.2, fun h => ⟨by have := ha.low (show hs A p q from h.1); omega, h⟩⟩
  refine Twin.mk' (by unfold minusL; rw [fillK_length, hl]) ?_ ?_
  · intro p q h
    have := ha.low ((key p q).1 h).1; omega
  · intro p q _ _
    rw [Bool.and_eq_true, ha.ext, Bool.not_eq_true', ← Bool.not_eq_true, hb.ext, key]
theorem cmpF_iff (X Y : Nat → Nat → Bool) (k p q : Nat) : cmpF X Y k p q = true ↔ ∃ r, r < k ∧ X p r = true ∧ Y r q = true := by
  induction k with
  | zero => simp [cmpF]
  | succ k ih =>
    rw [cmpF_succ, Bool.or_eq_true, ih, Bool.and_eq_true]
    constructor
    · rintro (⟨r, h1, h2⟩ | h)
      · exact ⟨r, by omega, h2⟩
      · exact ⟨k, by omega, h⟩
    · rintro ⟨r, h1, h2⟩
      by_cases e : r = k
      · subst e; exact Or.inr h2
      · exact Or.inl ⟨r, by omega, h2⟩
theorem twin_comp (hn : n ≤ 256) (ha : Twin n F A) (hb : Twin m G B) (HN : N = max n m) : Twin N (cmpF (extF n F) (extF m G) N) (compL A B) := by
  have hl : max A.length B.length = N := by rw [ha.wf.len, hb.wf.len, HN]
  have key : ∀ p q, hs (compL A B) p q ↔ ∃ r, hs A p r ∧ hs B r q := fun p q => by
    unfold compL
    rw [hl]
    have e : fillK N (fun p => joinRows B (bitsOf (gr A p))) A.length = fillK N (fun p => joinRows B (bitsOf (gr A p))) N := by
      unfold fillK
      apply List.map_congr_left
      intro p hp
      have hp : p < N := by simpa using hp
      rw [if_pos hp]
      by_cases h : p < A.length
      · rw [if_pos h]
      · rw [if_neg h]
        show 0 = joinRows B (bitsOf (gr A p))
        rw [gr_not h]
        have : bitsOf 0 = [] := by
          cases e : bitsOf 0 with
          | nil => rfl
          | cons x l =>
            have : x ∈ bitsOf 0 := by rw [e]; simp
            have := (mem_bitsOf.1 this).2
            simp at this
        rw [this]
        rfl
    rw [e, hs_fill (Nat.le_refl _)]
    unfold joinRows
    rw [join_bits]
    constructor
    · rintro ⟨_, h | ⟨r, hr, h⟩⟩
      · simp at h
      · exact ⟨r, (mem_bitsOf.1 hr).2, h⟩
    · rintro ⟨r, h1, h2⟩
      have := ha.low h1
      exact ⟨by omega, Or.inr ⟨r, mem_bitsOf.2 ⟨by omega, h1⟩, h2⟩⟩
  refine Twin.mk' (by unfold compL; rw [fillK_length, hl]) ?_ ?_
  · intro p q h
    obtain ⟨r, _, h⟩ := (key p q).1 h
    have := hb.low h; omega
  · intro p q _ _
    rw [cmpF_iff, key]
    constructor
    · rintro ⟨r, _, h1, h2⟩
      exact ⟨r, (ha.ext p r).1 h1, (hb.ext r q).1 h2⟩
    · rintro ⟨r, h1, h2⟩
      have := hb.low h2
      exact ⟨r, by omega, (ha.ext p r).2 h1, (hb.ext r q).2 h2⟩
theorem twin_inv (hn : n ≤ 256) (ha : Twin n F A) : Twin n (fun p q => F q p) (invL A) :=
  ⟨wf_inv hn ha.wf, fun p q hp hq => by rw [hs_inv hn ha.wf]; exact ha.same q p hq hp⟩
theorem twin_plus (ha : Twin n F A) : Twin n (plusFn F n) (plusL A) := ⟨wf_plus ha.wf, same_plus ha.same ha.wf.len⟩
end
end Go.Proofs.YtmmgdeoballhpaaDoor
/- Of SameMath2, what this seat can build. -/
namespace Go.Proofs.YtmmgdeoballhpaaDoor
open Go.RowKit Go.Shelf Sx Relation

section
variable {n m N : Nat} {F G : Nat → Nat → Bool} {A B : List Nat}
theorem bits_row (hn : n ≤ 256) (ha : Twin n F A) {p : Nat} (hp : p < n) : bitsOf (gr A p) = (List.range n).filter (F p) := by
  unfold bitsOf bitsN
  obtain ⟨d, hd⟩ : ∃ d, 256 = n + d := ⟨256 - n, by omega⟩
  have hz : (List.map (fun x => n + x) (List.range d)).filter (gr A p).testBit = [] := by
    rw [List.filter_eq_nil_iff]
    intro q hq h
    obtain ⟨r, _, rfl⟩ := List.mem_map.1 hq
    have := (ha.low (show hs A p (n + r) from h)).2
    omega
  rw [hd, List.range_add, List.filter_append, hz, List.append_nil]
  apply List.filter_congr
  intro q hq
  have hq : q < n := by simpa using hq
  rw [Bool.eq_iff_iff]
  exact (ha.same p q hp hq).symm
theorem twin_pairs (hn : n ≤ 256) (ha : Twin n F A) : pairsL A = prsF n F n 0 := by
  unfold pairsL pairsK prsF
  rw [ha.wf.len, show prsRow F n 0 = [] from rfl, List.append_nil]
  rw [List.flatMap_def, List.flatMap_def]
  congr 1
  apply List.map_congr_left
  intro p hp
  have hp : p < n := by simpa using hp
  unfold prsRow
  rw [bits_row hn ha hp]
theorem twin_irr (ha : Twin n F A) : irrF n F = (loopsL A == 0) := by
  rw [Bool.eq_iff_iff, beq_iff_eq, loops_zero]
  unfold irrF
  rw [List.all_eq_true]
  constructor
  · intro h p hp
    have h1 := (ha.low hp).1
    have := h p (by simpa using h1)
    rw [Bool.not_eq_true', ← Bool.not_eq_true] at this
    exact this ((ha.same p p h1 h1).2 hp)
  · intro h p hp
    have hp : p < n := by simpa using hp
    rw [Bool.not_eq_true', ← Bool.not_eq_true, ha.same p p hp hp]
    exact h p
end
end Go.Proofs.YtmmgdeoballhpaaDoor
/- The contract of the reference's Components: what it keeps. -/
namespace Go.Proofs.YtmmgdeoballhpaaDoor
open Go.RowKit Go.Shelf Sx

/-- The reference's box, the closure's, and of each point its least one. -/
structure P1 (w W : World) (n : Nat) (A : Value) (cb : Nat) (M1 : Value) (rb1 : Nat → Nat) (C : Nat → Nat → Bool) (O : List Int) : Prop where
  below : Below w.heap.size w W
  box : Blk W w.heap.size 46 #[.int .i64 ((n : Nat) : Int), A]
  cbox : Blk W cb 46 #[.int .i64 ((n : Nat) : Int), M1]
  cm : RefM (w.heap.size + 1) W M1 n n rb1 C
  of_ : Blk W (cb + 1) 3 (intsA O)
  lo : w.heap.size < cb
  clt : ∀ p, p < n → rb1 p < cb
  mlt : ∀ g, M1.ownBlock = some g → g < cb
theorem P1.setO {w W : World} {n : Nat} {A : Value} {cb : Nat} {M1 : Value} {rb1 : Nat → Nat} {C : Nat → Nat → Bool} {O : List Int} (h : P1 w W n A cb M1 rb1 C O) (i : Nat) (x : Int) : P1 w (W.setCell ⟨cb + 1, i, none⟩ (.int .i64 x)) n A cb M1 rb1 C (O.set i x) := by
  have h1 := h.lo
  refine ⟨h.below.setCell (by show w.heap.size ≤ cb + 1; omega) _, h.box.setOther (by show w.heap.size ≠ cb + 1; omega) _, h.cbox.setOther (by show cb ≠ cb + 1; omega) _, h.cm.far (.inr ⟨fun p hp => ?_, fun e => ?_⟩) _ _, h.of_.setI i x, h.lo, h.clt, h.mlt⟩
  · have := h.clt p hp
    omega
  · have := h.mlt _ e
    omega
/-- The box, the least points, and the relation between them. -/
structure P3 (w W : World) (n : Nat) (A : Value) (ob : Nat) (O : List Nat) (sb lo2 : Nat) (M2 : Value) (rb2 : Nat → Nat) (S : Nat → Nat → Bool) : Prop where
  below : Below w.heap.size w W
  box : Blk W w.heap.size 46 #[.int .i64 ((n : Nat) : Int), A]
  of_ : Blk W ob 3 (intsA (toI O))
  olo : w.heap.size < ob
  sm : RefM lo2 W M2 n n rb2 S
  sbx : Blk W sb 46 #[.int .i64 ((n : Nat) : Int), M2]
  lo : ob < lo2 ∧ lo2 ≤ sb
  rlt : ∀ p, p < n → rb2 p < sb
  mlt : ∀ g, M2.ownBlock = some g → g < sb
theorem P3.step {w W W' : World} {n : Nat} {A : Value} {ob : Nat} {O : List Nat} {sb lo2 : Nat} {M2 : Value} {rb2 : Nat → Nat} {S : Nat → Nat → Bool} (h : P3 w W n A ob O sb lo2 M2 rb2 S) (hb : Below W.heap.size W W') : P3 w W' n A ob O sb lo2 M2 rb2 S :=
  ⟨below_step h.below h.below.size hb, h.box.of_below hb, h.of_.of_below hb, h.olo, h.sm.below hb, h.sbx.of_below hb, h.lo, h.rlt, h.mlt⟩
theorem P3.put {w W : World} {n : Nat} {A : Value} {ob : Nat} {O : List Nat} {sb lo2 : Nat} {M2 : Value} {rb2 : Nat → Nat} {S : Nat → Nat → Bool} (h : P3 w W n A ob O sb lo2 M2 rb2 S) {u v : Nat} (hu : u < n) (hv : v < n) : P3 w (W.setCell ⟨rb2 u, v, none⟩ (.bool true)) n A ob O sb lo2 M2 rb2 (upd S u v true) := by
  have h1 := (h.sm.row u hu).1
  have h2 := h.rlt u hu
  have h3 := h.lo
  have h4 := h.olo
  exact ⟨h.below.setCell (by show w.heap.size ≤ rb2 u; omega) _, h.box.setOther (by show w.heap.size ≠ rb2 u; omega) _, h.of_.setOther (by show ob ≠ rb2 u; omega) _, h.olo, h.sm.put hu hv true, h.sbx.setOther (by show sb ≠ rb2 u; omega) _, h.lo, h.rlt, h.mlt⟩
/-- Blocks up to hi are as they were. -/
theorem P3.keep {w W W' : World} {n : Nat} {A : Value} {ob : Nat} {O : List Nat} {sb lo2 : Nat} {M2 : Value} {rb2 : Nat → Nat} {S : Nat → Nat → Bool} (h : P3 w W n A ob O sb lo2 M2 rb2 S) (hb : Below (sb + 1) W W') : P3 w W' n A ob O sb lo2 M2 rb2 S := by
  have h1 := h.lo
  have h2 := h.olo
  refine ⟨h.below.trans (hb.mono (by omega)), h.box.below hb (by omega), h.of_.below hb (by omega), h.olo, ?_, h.sbx.below hb (by omega), h.lo, h.rlt, h.mlt⟩
  refine ⟨?_, fun q hq => ⟨(h.sm.row q hq).1, (h.sm.row q hq).2.below hb (by have := h.rlt q hq; omega)⟩, h.sm.apart, h.sm.inj⟩
  exact owns_keep h.sm.own (fun g hg => hb.block g (by have := h.mlt g hg; omega))
/-- The same, with what is done and the lists. -/
structure P5 (w W : World) (n : Nat) (A : Value) (ob : Nat) (O : List Nat) (sb lo2 : Nat) (M2 : Value) (rb2 : Nat → Nat) (S : Nat → Nat → Bool) (db : Nat) (D : List Bool) (v : Value) (vs : List Value) (ls : List (List Int)) : Prop where
  g : P3 w W n A ob O sb lo2 M2 rb2 S
  don : Blk W db 4 (arrB D)
  cl : ClR W (db + 1) v vs ls
  lo : sb < db
theorem P5.step {w W W' : World} {n : Nat} {A : Value} {ob : Nat} {O : List Nat} {sb lo2 : Nat} {M2 : Value} {rb2 : Nat → Nat} {S : Nat → Nat → Bool} {db : Nat} {D : List Bool} {v : Value} {vs : List Value} {ls : List (List Int)} (h : P5 w W n A ob O sb lo2 M2 rb2 S db D v vs ls) (hb : Below W.heap.size W W') : P5 w W' n A ob O sb lo2 M2 rb2 S db D v vs ls :=
  ⟨h.g.step hb, h.don.of_below hb, h.cl.step hb, h.lo⟩
theorem P5.mark {w W : World} {n : Nat} {A : Value} {ob : Nat} {O : List Nat} {sb lo2 : Nat} {M2 : Value} {rb2 : Nat → Nat} {S : Nat → Nat → Bool} {db : Nat} {D : List Bool} {v : Value} {vs : List Value} {ls : List (List Int)} (h : P5 w W n A ob O sb lo2 M2 rb2 S db D v vs ls) (p : Nat) : P5 w (W.setCell ⟨db, p, none⟩ (.bool true)) n A ob O sb lo2 M2 rb2 S db (D.set p true) v vs ls := by
  have h2 := h.lo
  refine ⟨h.g.keep ((Below.refl _ _).setCell (by show sb + 1 ≤ db; omega) _), ?_, ⟨owns_set h.cl.own (by show db < db + 1; omega) _, h.cl.rows.keep (fun i x g hx hg => Below.heap_setCell _ _ _ _ (by have := (h.cl.rows.lt hx hg).1; show g ≠ db; omega))⟩, h.lo⟩
  have := h.don.set p (.bool true)
  rwa [arrB_set] at this
theorem P5.more {w W W' : World} {n : Nat} {A : Value} {ob : Nat} {O : List Nat} {sb lo2 : Nat} {M2 : Value} {rb2 : Nat → Nat} {S : Nat → Nat → Bool} {db : Nat} {D : List Bool} {v v' x : Value} {vs : List Value} {ls : List (List Int)} {l : List Int} {N0 : Nat} {o : Obj} (h : P5 w W n A ob O sb lo2 M2 rb2 S db D v vs ls) (hN : db + 1 ≤ N0) (hvs : ∀ (i : Nat) (y : Value) (g : Nat), vs[i]? = some y → y.ownBlock = some g → g < N0) (hx : W.ownsRow N0 3 1 x l.length (encJ l))
    (hown : W'.ownsRow (db + 1) 29 1 v' (vs.length + 1) (vs ++ [x])) (hg : (W.alloc o).grownBy W' v.ownBlock) : P5 w W' n A ob O sb lo2 M2 rb2 S db D v' (vs ++ [x]) (ls ++ [l]) := by
  have h2 := h.lo
  have hdl := h.don.lt
  have hb : Below (db + 1) W W' := ((Below.refl _ W).alloc (by omega) o).grown hg (by simp; omega) (fun k e => (h.cl.own.lt k e).1)
  refine ⟨h.g.keep (hb.mono (by omega)), h.don.below hb (by omega), h.cl.add (owns_lo hx hN) (fun i y g hy hyg e => ?_) hown hg, h.lo⟩
  have h3 := hvs i y g hy hyg
  have h4 := (hx.lt g e).1
  omega
end Go.Proofs.YtmmgdeoballhpaaDoor
/- The contract of the reference's Reduction; sextantlaw2.lists at two lists that are alike. -/
namespace Go.Proofs.YtmmgdeoballhpaaDoor
open Go.RowKit Go.Shelf Sx

/-- What the reference's Reduction has. -/
def redF (n : Nat) (F : Nat → Nat → Bool) : Nat → Nat → Bool := fun p q => extF n (plusFn F n) p q && !extF n (cmpF (extF n (plusFn F n)) (extF n (plusFn F n)) n) p q
set_option maxRecDepth 100000 in
set_option maxHeartbeats 4000000 in
theorem r2red_no (lo n : Nat) (hn : n ≤ 256) (x : Option Addr) (y z : Nat) (rb : Nat → Nat) (F : Nat → Nat → Bool) (w : World) (h : RefM lo w (.slice x y z) n n rb F) (HI : Hid (irrF n (plusFn F n) = false)) :
    Calls Tryd.prog 29 #[.agg #[.int .i64 ((n : Nat) : Int), .slice x y z]] w fun e w' => ∃ xr yr zr, e = .returned (.tuple #[.agg #[.int .i64 0, .slice xr yr zr], .int .i64 3]) ∧ Below w.heap.size w w' := by
  have hB0 : Below w.heap.size w ((w.alloc (.cells #[.int .i64 ((n : Nat) : Int), .slice x y z] 46)).alloc (.cells #[.int .i64 0, .slice none 0 0] 46)) := ((Below.refl _ w).alloc (Nat.le_refl _) _).alloc (by simp) _
  have hb0 := (Blk.new w 46 #[.int .i64 ((n : Nat) : Int), .slice x y z]).alloc (.cells #[.int .i64 0, .slice none 0 0] 46)
  have hr0 := Blk.new2 w (.cells #[.int .i64 ((n : Nat) : Int), .slice x y z] 46) 46 #[.int .i64 0, .slice none 0 0]
  have hpl := refPlus_calls lo n hn x y z rb F _ ((h.alloc (.cells #[.int .i64 ((n : Nat) : Int), .slice x y z] 46)).alloc (.cells #[.int .i64 0, .slice none 0 0] 46))
  go_enter Tryd.func29, Tryd.ntmps29
  have c0 := hb0.cell (j := 0) rfl
  have c1 := hb0.cell (j := 1) rfl
  go_wp2_with fail
  refine hpl.mono ?_
  rintro e w1 ⟨M1, rb1, rfl, hM1, hB1⟩
  obtain ⟨x1, y1, z1, rfl⟩ := hM1.slice
  have hW1 := below_step hB0 hB0.size hB1
  have hr1 := (hr0.of_below hB1).alloc (.cells #[.int .i64 ((n : Nat) : Int), .slice x1 y1 z1] 46)
  have hbx := Blk.new w1 46 #[.int .i64 ((n : Nat) : Int), .slice x1 y1 z1]
  have hM1a := hM1.alloc (.cells #[.int .i64 ((n : Nat) : Int), .slice x1 y1 z1] 46)
  have hW1a := hW1.alloc hW1.size (.cells #[.int .i64 ((n : Nat) : Int), .slice x1 y1 z1] 46)
  have e0 := hbx.cell (j := 0) rfl
  have e1 := hbx.cell (j := 1) rfl
  clear hpl hb0 hr0 hB0 c0 c1 hM1 hB1 hW1
  go_wp2_with fail
  refine (refIrr_calls _ n hn x1 y1 z1 rb1 (plusFn F n) _ hM1a false HI).mono ?_
  rintro e w3 ⟨rfl, hB3⟩
  have hr3 := hr1.of_below hB3
  have hW3 := below_step hW1a hW1a.size hB3
  have hrn := refNew_calls 0 w3
  rw [show clampN 0 = 0 from rfl] at hrn
  have HRN := hid_of hrn
  clear hrn e0 e1 hbx hr1 hW1a hM1a hB3
  go_wp2_with fail
  refine HRN.out.mono ?_
  rintro e w4 ⟨M4, rb4, rfl, hM4, hB4⟩
  obtain ⟨x4, y4, z4, rfl⟩ := hM4.slice
  have hr4 := hr3.of_below hB4
  have d0 := hr4.cell (j := 0) rfl
  have d1 := hr4.cell (j := 1) rfl
  have f0 := hr4.frozen 0
  have f1 := hr4.frozen 1
  have hW4 := below_step hW3 hW3.size hB4
  clear HRN hr3 hM4 hB4 hW3
  go_wp2_with fail
  have hres := (hr4.set 0 (.int .i64 0)).set 1 (.slice x4 y4 z4)
  simp only [List.setIfInBounds_toArray, List.set_cons_zero, List.set_cons_succ] at hres
  (try simp only [Exit.inBlock, Exit.then])
  refine bodyPost_ret (ret_ref2 rfl rfl rfl hres) rfl ?_
  exact ⟨x4, y4, z4, rfl, (hW4.setCell (p := ⟨w.heap.size + 1, 0, none⟩) (by simp) _).setCell (p := ⟨w.heap.size + 1, 1, none⟩) (by simp) _⟩
set_option maxRecDepth 100000 in
set_option maxHeartbeats 4000000 in
theorem r2red_yes (lo n : Nat) (hn : n ≤ 256) (x : Option Addr) (y z : Nat) (rb : Nat → Nat) (F : Nat → Nat → Bool) (w : World) (h : RefM lo w (.slice x y z) n n rb F) (HI : Hid (irrF n (plusFn F n) = true)) :
    Calls Tryd.prog 29 #[.agg #[.int .i64 ((n : Nat) : Int), .slice x y z]] w fun e w' => ∃ M rb', e = .returned (.tuple #[.agg #[.int .i64 ((n : Nat) : Int), M], .int .i64 0]) ∧ RefM (w.heap.size + 2) w' M n n rb' (redF n F) ∧ Below w.heap.size w w' := by
  have HN : Hid (n = max n n) := by show _ = _; omega
  have hB0 : Below w.heap.size w ((w.alloc (.cells #[.int .i64 ((n : Nat) : Int), .slice x y z] 46)).alloc (.cells #[.int .i64 0, .slice none 0 0] 46)) := ((Below.refl _ w).alloc (Nat.le_refl _) _).alloc (by simp) _
  have hb0 := (Blk.new w 46 #[.int .i64 ((n : Nat) : Int), .slice x y z]).alloc (.cells #[.int .i64 0, .slice none 0 0] 46)
  have hr0 := Blk.new2 w (.cells #[.int .i64 ((n : Nat) : Int), .slice x y z] 46) 46 #[.int .i64 0, .slice none 0 0]
  have hpl := refPlus_calls lo n hn x y z rb F _ ((h.alloc (.cells #[.int .i64 ((n : Nat) : Int), .slice x y z] 46)).alloc (.cells #[.int .i64 0, .slice none 0 0] 46))
  go_enter Tryd.func29, Tryd.ntmps29
  have c0 := hb0.cell (j := 0) rfl
  have c1 := hb0.cell (j := 1) rfl
  go_wp2_with fail
  refine hpl.mono ?_
  rintro e w1 ⟨M1, rb1, rfl, hM1, hB1⟩
  obtain ⟨x1, y1, z1, rfl⟩ := hM1.slice
  have hW1 := below_step hB0 hB0.size hB1
  have hr1 := (hr0.of_below hB1).alloc (.cells #[.int .i64 ((n : Nat) : Int), .slice x1 y1 z1] 46)
  have hbx := Blk.new w1 46 #[.int .i64 ((n : Nat) : Int), .slice x1 y1 z1]
  have hM1a := hM1.alloc (.cells #[.int .i64 ((n : Nat) : Int), .slice x1 y1 z1] 46)
  have hW1a := hW1.alloc hW1.size (.cells #[.int .i64 ((n : Nat) : Int), .slice x1 y1 z1] 46)
  have e0 := hbx.cell (j := 0) rfl
  have e1 := hbx.cell (j := 1) rfl
  have hcb : w.heap.size + 2 ≤ w1.heap.size := by have := hB1.size; simp at this; omega
  clear hpl hb0 hr0 hB0 c0 c1 hM1 hB1 hW1
  go_wp2_with fail
  refine (refIrr_calls _ n hn x1 y1 z1 rb1 (plusFn F n) _ hM1a true HI).mono ?_
  rintro e w3 ⟨rfl, hB3⟩
  have hr3 := hr1.of_below hB3
  have hb3 := hbx.of_below hB3
  have hM3 := (hM1a.mono (Nat.zero_le _)).below hB3
  have hW3 := below_step hW1a hW1a.size hB3
  have g0 := hb3.cell (j := 0) rfl
  have g1 := hb3.cell (j := 1) rfl
  have hsz : w.heap.size + 2 ≤ w3.heap.size := by have := hr3.lt; omega
  clear e0 e1 hbx hr1 hW1a hM1a hB3
  generalize w1.heap.size = cb at *
  have HM3 := hid_of hM3
  have HR3 := hid_of hr3
  have HB3 := hid_of hb3
  clear hM3 hr3 hb3
  go_wp2_with fail
  go_region_held3 (fun W => W.cell? ⟨cb, 0, none⟩ = some (.int .i64 ((n : Nat) : Int)) ∧ W.cell? ⟨cb, 1, none⟩ = some (.slice x1 y1 z1)) (first | assumption | exact ⟨g0, g1⟩) (first | (go_at_call 58; refine (refComp_calls 0 0 n n n hn hn HN x1 y1 z1 rb1 (plusFn F n) x1 y1 z1 rb1 (plusFn F n) _ (HM3.out.below (Below.refl _ _).drew) (HM3.out.below (Below.refl _ _).drew)).mono ?_; rintro e w4 ⟨M4, rb4, rfl, hM4, hB4⟩; obtain ⟨x4, y4, z4, rfl⟩ := hM4.slice; have hX4 : Below w3.heap.size w3 w4 := below_of_drew' hB4; have HX4 := hid_of hX4; have K4 : w4.cell? ⟨cb, 0, none⟩ = some (.int .i64 ((n : Nat) : Int)) ∧ w4.cell? ⟨cb, 1, none⟩ = some (.slice x1 y1 z1) := ⟨(HB3.out.of_below hX4).cell rfl, (HB3.out.of_below hX4).cell rfl⟩) | (go_at_call 57; refine (refMinus_calls 0 _ n n n hn hn HN x1 y1 z1 rb1 (plusFn F n) x4 y4 z4 rb4 _ _ (HM3.out.below HX4.out) hM4).mono ?_; rintro e w5 ⟨M5, rb5, rfl, hM5, hB5⟩; obtain ⟨x5, y5, z5, rfl⟩ := hM5.slice; have hX5 := below_step HX4.out HX4.out.size hB5; have hr5 := HR3.out.of_below hX5; have d0 := hr5.cell (j := 0) rfl; have d1 := hr5.cell (j := 1) rfl; have f0 := hr5.frozen 0; have f1 := hr5.frozen 1; have K5 : w5.cell? ⟨cb, 0, none⟩ = some (.int .i64 ((n : Nat) : Int)) ∧ w5.cell? ⟨cb, 1, none⟩ = some (.slice x1 y1 z1) := ⟨(HB3.out.of_below hX5).cell rfl, (HB3.out.of_below hX5).cell rfl⟩; have hb6 := ((HB3.out.of_below hX5).setOther (a := ⟨w.heap.size + 1, 0, none⟩) (by show cb ≠ w.heap.size + 1; omega) (.int .i64 ((n : Nat) : Int))).setOther (a := ⟨w.heap.size + 1, 1, none⟩) (by show cb ≠ w.heap.size + 1; omega) (.slice x5 y5 z5); have K6 : ((w5.setCell ⟨w.heap.size + 1, 0, none⟩ (.int .i64 ((n : Nat) : Int))).setCell ⟨w.heap.size + 1, 1, none⟩ (.slice x5 y5 z5)).cell? ⟨cb, 0, none⟩ = some (.int .i64 ((n : Nat) : Int)) ∧ ((w5.setCell ⟨w.heap.size + 1, 0, none⟩ (.int .i64 ((n : Nat) : Int))).setCell ⟨w.heap.size + 1, 1, none⟩ (.slice x5 y5 z5)).cell? ⟨cb, 1, none⟩ = some (.slice x1 y1 z1) := ⟨hb6.cell rfl, hb6.cell rfl⟩))
  have hW5 := below_step hW3 hW3.size hX5
  have hsz4 : w.heap.size + 2 ≤ w4.heap.size := Nat.le_trans hsz HX4.out.size
  have hres := (hr5.set 0 (.int .i64 ((n : Nat) : Int))).set 1 (.slice x5 y5 z5)
  simp only [List.setIfInBounds_toArray, List.set_cons_zero, List.set_cons_succ] at hres
  have HRES := hid_of hres
  have hM6 : RefM (w.heap.size + 2) ((w5.setCell ⟨w.heap.size + 1, 0, none⟩ (.int .i64 ((n : Nat) : Int))).setCell ⟨w.heap.size + 1, 1, none⟩ (.slice x5 y5 z5)) (.slice x5 y5 z5) n n rb5 (redF n F) := by
    refine (hM5.mono hsz4).below' (fun k hk _ => ?_)
    rw [Below.heap_setCell _ _ _ _ (by show k ≠ w.heap.size + 1; omega), Below.heap_setCell _ _ _ _ (by show k ≠ w.heap.size + 1; omega)]
  have HM6 := hid_of hM6
  clear hM6 hres hM5 hM4 K4 K5 K6 d0 d1 f0 f1
  go_wp2_with fail
  (try simp only [Exit.inBlock, Exit.then])
  refine bodyPost_ret (ret_ref2 rfl rfl rfl HRES.out) rfl ?_
  have hB9 := (hW5.setCell (p := ⟨w.heap.size + 1, 0, none⟩) (by simp) (.int .i64 ((n : Nat) : Int))).setCell (p := ⟨w.heap.size + 1, 1, none⟩) (by simp) (.slice x5 y5 z5)
  first | exact ⟨_, rb5, rfl, HM6.out, hB9⟩ | exact ⟨_, rfl, ⟨rb5, HM6.out⟩, hB9⟩
set_option maxRecDepth 100000 in
set_option maxHeartbeats 2000000 in
/-- Two lists of lists that are alike. -/
theorem lists2_same (v1 v2 : Value) (bs : List (List Nat)) (w : World) (h1 : BlocksR w v1 bs) (h2 : BlocksR w v2 bs) (hm : bs.length ≤ 65536) (hm2 : ∀ bl ∈ bs, bl.length ≤ 65536) :
    Calls Tryd.prog 13 #[v1, v2] w fun e w' => e = .returned (.bool true) ∧ Below w.heap.size w w' := by
  have h1' := hid_of h1
  have h2' := hid_of h2
  obtain ⟨p1, c1, rfl, vs1, hl1, hv1, hr1⟩ := h1
  obtain ⟨p2, c2, rfl, vs2, hl2, hv2, hr2⟩ := h2
  have hn : ((bs.length : Int) != (bs.length : Int)) = false := by simp
  have HV1 := hid_of hv1
  have HV2 := hid_of hv2
  have HR1 := hid_of hr1
  have HR2 := hid_of hr2
  have HM2 := hid_of hm2
  have HL1 := hid_of hl1
  have HL2 := hid_of hl2
  clear hv1 hv2 hr1 hr2 hm2 hl1 hl2 h1' h2'
  go_enter Tryd.func13, Tryd.ntmps13
  go_wp2_with fail
  go_loopw [5] (fun i wr => ∃ k : Nat, k ≤ bs.length ∧ i = .int .i64 k ∧ Below w.heap.size w wr) (fun i _ => bs.length - (intOf i).toNat)
  case atStart => exact ⟨0, by omega, rfl, Below.refl _ _⟩
  case round =>
    obtain ⟨k, hk, rfl, hB⟩ := hrel
    by_cases hlt : k < bs.length
    · obtain ⟨s1, rfl, a1, a2⟩ := HV1.out (by omega)
      obtain ⟨s2, rfl, b1, b2⟩ := HV2.out (by omega)
      obtain ⟨x, hx⟩ : ∃ x, vs1[k]? = some x := ⟨_, List.getElem?_eq_getElem (by rw [HL1.out]; exact hlt)⟩
      obtain ⟨y, hy⟩ : ∃ x, vs2[k]? = some x := ⟨_, List.getElem?_eq_getElem (by rw [HL2.out]; exact hlt)⟩
      obtain ⟨bl, hbl⟩ : ∃ bl, bs[k]? = some bl := ⟨_, List.getElem?_eq_getElem hlt⟩
      have x0 := (hB.cell (p := ⟨s1, k, none⟩) a1).trans (a2 k x hx)
      have y0 := (hB.cell (p := ⟨s2, k, none⟩) b1).trans (b2 k y hy)
      have hbm := HM2.out bl (List.mem_of_getElem? hbl)
      have hix := HR1.out k x bl hx hbl
      have hiy := HR2.out k y bl hy hbl
      have hcall : ∀ W, Below w.heap.size w W → Calls Tryd.prog 20 #[x, y] W fun e w' => e = .returned (.bool true) ∧ Below W.heap.size W w' := fun W hW => by
        have := ints2_calls x y (toI bl) (toI bl) W (hix.below hW) (hiy.below hW) (by rw [toI_length]; omega)
        rw [show (toI bl == toI bl) = true by simp] at this
        exact this
      have HCL := hid_of hcall
      obtain ⟨xa, xc, rfl⟩ := hix.len
      obtain ⟨ya, yc, rfl⟩ := hiy.len
      have k0 : (0 : Int) ≤ ((k : Nat) : Int) := by omega
      have k1 : ((k : Nat) : Int) < ((bs.length : Nat) : Int) := by omega
      have HBW := hid_of hB
      clear hx hy hbl a2 b2 hix hiy hcall hbm
      generalize (toI bl).length = ll at *
      go_wp2_with fail
      go_region_held3 (fun W => W.cell? ⟨s1, k, none⟩ = some (.slice xa ll xc) ∧ W.cell? ⟨s2, k, none⟩ = some (.slice ya ll yc)) (first | assumption | exact ⟨x0, y0⟩) (first | (go_at_call 20; refine (HCL.out _ HBW.out.drew).mono ?_; rintro e w4 ⟨rfl, hB4⟩; have hX4 : Below w.heap.size w w4 := below_step HBW.out HBW.out.size (below_of_drew' hB4); have K4 : w4.cell? ⟨s1, k, none⟩ = some (.slice xa ll xc) ∧ w4.cell? ⟨s2, k, none⟩ = some (.slice ya ll yc) := ⟨(below_of_drew' hB4).cell (p := ⟨s1, k, none⟩) (World.block_lt_of_cell? _ _ x0) |>.trans x0, (below_of_drew' hB4).cell (p := ⟨s2, k, none⟩) (World.block_lt_of_cell? _ _ y0) |>.trans y0⟩))
      go_wp2_with fail
      refine ⟨⟨k + 1, by omega, by go_num, hX4⟩, by simp [intOf]; omega⟩
    · obtain rfl : k = bs.length := by omega
      go_wp2_with fail
      go_ret
      exact ⟨rfl, hB⟩
end Go.Proofs.YtmmgdeoballhpaaDoor
