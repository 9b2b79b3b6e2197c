/- The contract of package rel's Pairs. -/
import Derived.Test.YtmmgdeoballhpaaDoorJ08
import Derived.RangeFuncBox
import Derived.Maps.AppendAt
namespace Go.Proofs.YtmmgdeoballhpaaDoor
open Go.RowKit Go.Shelf Sx
attribute [local go_sem] Oper.semAt_some

theorem ownFrom_rows {β : Type} {B : Nat} {I : β → World → Prop} (hs : ∀ s W, I s W → B ≤ W.heap.size)
    (h : ∀ s W W', I s W → Below B W W' → (∀ base e size v k xs, W.ownsRow base e size v k xs → W'.ownsRow base e size v k xs) → I s W') : OwnFrom B I :=
  fun s W W' row hi hg hr => h s W W' hi ((Below.refl B W).grown hg (hs s W hi) (fun k e => (hr k e).1)) fun base e size v k xs ho => by
    refine ho.kept hg ?_
    rcases ho.2 with ⟨rfl, _⟩ | ⟨g, cap, cur, rfl, _, hgb, _⟩
    · exact .inl rfl
    · refine .inr fun e' => ?_
      obtain ⟨_, o, ho, hc⟩ := hr g (by simpa [Value.ownBlock] using e'.symm)
      rw [hgb] at ho; cases ho; cases hc

def encPs (l : List (Nat × Nat)) : List Value := l.flatMap (fun x => [.int .i64 ((x.1 : Nat) : Int), .int .i64 ((x.2 : Nat) : Int)])
theorem encPs_snoc (l : List (Nat × Nat)) (a b : Nat) : encPs (l ++ [(a, b)]) = encPs l ++ [.int .i64 ((a : Nat) : Int), .int .i64 ((b : Nat) : Int)] := by simp [encPs]
def pairsK (L : List Nat) (k : Nat) : List (Nat × Nat) := (List.range k).flatMap (fun p => (bitsOf (gr L p)).map (fun q => (p, q)))
def pairsL (L : List Nat) : List (Nat × Nat) := pairsK L L.length
theorem pairsK_succ (L : List Nat) (k : Nat) : pairsK L (k + 1) = pairsK L k ++ (bitsOf (gr L k)).map (fun q => (k, q)) := by simp [pairsK, List.range_succ]
theorem pairsK_length (L : List Nat) (k : Nat) : (pairsK L k).length ≤ 256 * k := by
  induction k with
  | zero => simp [pairsK]
  | succ k ih => rw [pairsK_succ, List.length_append, List.length_map]; have := bitsOf_length (gr L k); omega
theorem Tryd.infopair : (Tryd.prog.info? 37).map (fun i => (i.zero, i.size, i.bytes)) = some (some (.agg #[.int .i64 0, .int .i64 0]), 2, 16) := by kernel_rfl
theorem news_two (w : World) (a b : Value) (t : TypeId) : ∀ j u, [a, b][j]? = some u → (w.alloc (.cells #[a, b] t)).cell? ((⟨w.heap.size, 0, none⟩ : Addr).add j) = some u := by
  intro j u hj
  have h := Blk.new w t #[a, b]
  match j, hj with
  | 0, hj => simp at hj; subst hj; exact h.cell (j := 0) rfl
  | 1, hj => simp at hj; subst hj; exact h.cell (j := 1) rfl
  | j + 2, hj => simp at hj
theorem shut_owns {n : Nat} {base : Nat} {e : TypeId} {size : Nat} {v : Value} {k : Nat} {xs : List Value} : ∀ {Ds : List Nat} {W : World}, Marks n W Ds → W.ownsRow base e size v k xs → (shut W Ds).ownsRow base e size v k xs
  | [], _, _, hb => hb
  | D :: Ds, W, h, hb => (show (shut (W.putObj D (.deferred none)) Ds).ownsRow base e size v k xs from shut_owns h.tail (ownsRow_putObj hb _ (h.lies D (by simp)).2 rfl))

set_option maxRecDepth 100000 in
set_option maxHeartbeats 2000000 in
theorem Pairs_in (b c : Nat) (L : List Nat) (w : World) (h : IsRel w b c L) (hT : Tab w) :
    CallsIn Fence.wide 6 Tryd.prog 33 #[pv b] w fun e w' => ∃ v, e = .returned v ∧ w'.ownsRow w.heap.size 37 2 v (pairsL L).length (encPs (pairsL L)) ∧ Below w.heap.size w w' := by
  have hl := h.len
  have hh := h.hcell
  have hlt1 := h.head.lt
  have hlt2 := h.rows.lt
  refine callsIn_of_wp_marks Tryd.func33 rfl trivial ?_ rfl
  simp only [Tryd.ntmps33, List.size_toArray, List.length_cons, List.length_nil, Nat.reduceAdd, Nat.reduceSub, Array.replicate_succ, Array.replicate_zero, List.push_toArray, List.append_toArray, List.nil_append, List.cons_append]
  gi_wp2_with fail
  clear hh
  obtain ⟨i0, hi, hz0, hz1, hz2⟩ := info_parts Tryd.infopair
  refine wpIn_loop (fun a wr => ∃ (k : Nat) (Ds : List Nat) (u4 u5 u6 u13 u14 u15 u16 u17 u18 u19 u20 u21 u22 u23 u24 u25 u26 : Value), (k ≤ L.length ∧ (∃ v, Boxed wr w.heap.size 38 v ∧ wr.ownsRow w.heap.size 37 2 v (pairsK L k).length (encPs (pairsK L k))) ∧ Below w.heap.size w wr ∧ Marks w.heap.size wr Ds) ∧ a = { tmps := #[pv b, undef, .slice none 0 0, pv w.heap.size, u4, u5, u6, pv b, pv b, pv b, .slice (some ⟨c, 0, none⟩) L.length L.length, .int .i64 L.length, .int .i64 k, u13, u14, u15, u16, u17, u18, u19, u20, u21, u22, u23, u24, u25, u26, undef], defers := Ds.map mark })
    (fun a _ => L.length - (intOf (a.tmps.getD 12 undef)).toNat) ?start ?round
  case start =>
    refine ⟨0, [], _, _, _, _, _, _, _, _, _, _, _, _, _, _, _, _, _, ⟨by omega, ⟨.slice none 0 0, Boxed.new w _ _, World.ownsRow_nil _ _ _ _⟩, (Below.refl _ w).alloc (Nat.le_refl _) _, Marks.nil _ _⟩, rfl⟩
  case round =>
    rintro _ wr ⟨k, Ds, u4, u5, u6, u13, u14, u15, u16, u17, u18, u19, u20, u21, u22, u23, u24, u25, u26, ⟨hk, ⟨v, hv, hrow⟩, hB, hD⟩, rfl⟩
    by_cases hlt : k < L.length
    · have hro := h.below hB
      obtain ⟨hh, ⟨x0, x1, x2, x3⟩, _, q1, q2⟩ := hro.slots (gr_of hlt)
      have HE : Hid (_ = _) := pairsK_succ L k
      have hlen := pairsK_length L k
      have hd : decide ((k : Int) < (L.length : Int)) = true := decide_eq_true (by omega)
      gi_wp2_with (refine ⟨trivial, ?_⟩; gi_at_call 62; refine (points_in Fence.wide _ trivial rfl (gr L k) _).mono ?_; rintro e w' ⟨rfl, rfl⟩)
      clear x0 x1 x2 x3 hh
      have hTr := hT.step hB
      have hs1 := hv.lt
      have hs2 := hB.size
      have hpos := hT.pos
      have hDlt := hD.lt
      refine wpIn_rangeFunc_ownF rfl (by omega) (gf := 88) (lb := #[.pointer (some ⟨wr.heap.size + 1 + 1, 0, none⟩)]) rfl trivial (enters_of Tryd.func88 (by kernel_rfl) rfl)
        (points_stops (gr L k) (wr.heap.size + 1 + 1) (6 - 1) (by omega) _ ?hB ?hT) belowK_t (belowK_b (by simp)) (Below.refl _ _) (fun _ => rfl)
        (fun pre W => wr.heap.size + 1 + 1 + 1 ≤ W.heap.size ∧ Blk W wr.heap.size 3 #[.int .i64 k] ∧ (∃ v, Boxed W w.heap.size 38 v ∧ W.ownsRow w.heap.size 37 2 v (pairsK L k ++ (vals pre).map (fun q => (k, q))).length (encPs (pairsK L k ++ (vals pre).map (fun q => (k, q))))) ∧ Tab W ∧ Marks w.heap.size W Ds ∧ Below w.heap.size w W)
        (fun _ _ _ => False) ?hI (fun _ => ownFrom_false) ?h0
        (fun x => { tmps := #[pv b, undef, .slice none 0 0, pv w.heap.size, pv wr.heap.size, pv (wr.heap.size + 1), .int .i64 ((x.1 : Nat) : Int), pv b, pv b, pv b, .slice (some ⟨c, 0, none⟩) L.length L.length, .int .i64 L.length, .int .i64 k, .bool true, .int .i64 k, .pointer (some ⟨c, k * 4, none⟩), rv (gr L k), rv (gr L k), .func (.func 88) #[] #[.pointer (some ⟨wr.heap.size + 1 + 1, 0, none⟩)], .int .i64 ((x.1 : Nat) : Int), u20, u21, u22, u23, u24, u25, u26, undef], defers := [] }) ?assign ?body ?done ?stop
      case hB => exact Blk.new3 _ _ _ _ _
      case hT => exact ((hTr.alloc _).alloc _).alloc _
      case hI =>
        refine ownFrom_rows (fun s W hi => by simpa using hi.1) ?_
        rintro s W W' ⟨h1, h2, ⟨v, h3, h4⟩, h5, h6, h7⟩ hb' ho
        have hb' : Below (wr.heap.size + 1 + 1 + 1) W W' := by simpa using hb'
        exact ⟨Nat.le_trans h1 hb'.size, h2.below hb' (by omega), ⟨v, (hb'.block _ (by omega)).trans h3, ho _ _ _ _ _ _ h4⟩, h5.below hb' (by omega), h6.below hb' (fun D hD => by have := hDlt D hD; omega), h7.trans (hb'.mono (by omega))⟩
      case h0 =>
        refine ⟨by simp, ((Blk.new wr _ _).alloc _).alloc _, ⟨v, ((hv.alloc _).alloc _).alloc _, ?_⟩, ((hTr.alloc _).alloc _).alloc _, hD.keeps (((KeepsOthers.alloc _ _).trans (KeepsOthers.alloc _ _)).trans (KeepsOthers.alloc _ _)), ((hB.alloc hs2 _).alloc (by simp; omega) _).alloc (by simp; omega) _⟩
        rw [show vals (R := gr L k) [] = [] from rfl, List.map_nil, List.append_nil]
        exact ((hrow.alloc _).alloc _).alloc _
      case assign =>
        intro l x W K hK
        gi_wp2
        exact hK
      case body =>
        rintro l pre x W ⟨h1, h2, ⟨v, h3, h4⟩, h5, h6, h7⟩ hplen
        have k0 : W.cell? ⟨w.heap.size, 0, none⟩ = some v := h3.cell
        have k1 : W.cell? ⟨wr.heap.size, 0, none⟩ = some (.int .i64 k) := h2.cell rfl
        have hn1 : (pairsK L k ++ (vals pre).map (fun q => (k, q))).length ≤ 256 * k + 256 := by simp [vals]; omega
        have HS : Hid (encPs (pairsK L k ++ (vals (pre ++ [x])).map (fun q => (k, q))) = encPs (pairsK L k ++ (vals pre).map (fun q => (k, q))) ++ [.int .i64 ((k : Nat) : Int), .int .i64 ((x.1 : Nat) : Int)] ∧ (pairsK L k ++ (vals (pre ++ [x])).map (fun q => (k, q))).length = (pairsK L k ++ (vals pre).map (fun q => (k, q))).length + 1) := by
          rw [vals_snoc, List.map_append, ← List.append_assoc]
          exact ⟨encPs_snoc _ _ _, by simp; omega⟩
        generalize pairsK L k ++ (vals pre).map (fun q => (k, q)) = lst at *
        clear HE hlen hrow
        gi_wp2_with (gi_at_builtin; refine wpListIn_append_own _ rfl _ _ 38 rfl w.heap.size 37 i0 (.agg #[.int .i64 0, .int .i64 0]) 2 16 Tryd.underlying38 hi hz0 hz1 hz2 rfl (by decide) _ _ _ rfl (h4.alloc _) ⟨W.heap.size, 0, none⟩ 1 1 [.int .i64 ((k : Nat) : Int), .int .i64 ((x.1 : Nat) : Int)] rfl rfl (news_two _ _ _ _) (by simp [Value.oneCell']) (by unfold maxLen; omega) (by omega) (by have := h7.size; simp; omega) ?_; intro v' w2 hown' hgrow _; obtain ⟨g', cap', rfl⟩ := ownsRow_succ hown'; obtain ⟨hv1, hv2, hr2, hk2, hb2⟩ := h3.appended (by decide) h4 h7.size (Nat.le_refl _) hown' hgrow; have hc1 := hv1.cell; have hf1 := hv1.frozen)
        refine ⟨hk2, hb2.mono (by omega), Nat.le_trans h1 hk2.size, ?_, ⟨_, hv2, ?_⟩, h5.below hb2 (by omega), h6.keeps hk2, h7.trans hb2⟩
        · have h2b : Boxed W wr.heap.size 3 (.int .i64 k) := h2
          have := ((h2b.alloc (.cells #[.int .i64 ((k : Nat) : Int), .int .i64 ((x.1 : Nat) : Int)] 37)).kept hgrow (h2b.not_row (by decide) h4))
          exact (show Blk w2 wr.heap.size 3 #[.int .i64 k] from this).setOther (by simp; omega) _
        · rw [HS.out.1, HS.out.2]; exact hr2
      case done =>
        rintro D ys W hDD hys ⟨h1, h2, ⟨v, h3, h4⟩, h5, h6, h7⟩ hK
        rw [hys, ← HE.out] at h4
        gi_wp2
        have hm2 : Marks w.heap.size W (D :: Ds) := h6.cons hK (by simp at hDD; omega) (fun E hE => by have := hDlt E hE; simp at hDD; omega)
        refine ⟨?_, ?_⟩
        · refine ⟨k + 1, D :: Ds, ?_⟩
          repeat apply Exists.intro
          exact ⟨⟨by omega, ⟨v, h3, h4⟩, h7, hm2⟩, rfl⟩
        · simp [intOf]; omega
      case stop =>
        rintro D c pre W _ _ h _
        exact h.elim
    · obtain rfl : k = L.length := by omega
      have k0 : wr.cell? ⟨w.heap.size, 0, none⟩ = some v := hv.cell
      gi_wp2
      exact leave_marks hD ⟨_, results_tmp rfl _ _ _, v, rfl, shut_owns hD hrow, hB.trans (shut_below hD)⟩
theorem Pairs_calls (b c : Nat) (L : List Nat) (w : World) (h : IsRel w b c L) (hT : Tab w) :
    Calls Tryd.prog 33 #[pv b] w fun e w' => ∃ v, e = .returned v ∧ w'.ownsRow w.heap.size 37 2 v (pairsL L).length (encPs (pairsL L)) ∧ Below w.heap.size w w' := callsIn_wide.1 (Pairs_in b c L w h hT)
end Go.Proofs.YtmmgdeoballhpaaDoor
/- Lists of numbers in memory, as package order's walks want them; isPoint. -/
namespace Go.Proofs.YtmmgdeoballhpaaDoor
open Go.RowKit Go.Shelf Sx

/-- The cells of a list of numbers. -/
def intsA (l : List Int) : Array Value := (l.map (fun x => Value.int .i64 x)).toArray
theorem intsA_size (l : List Int) : (intsA l).size = l.length := by simp [intsA]
theorem intsA_at {l : List Int} {i : Nat} {x : Int} (h : l[i]? = some x) : (intsA l)[i]? = some (.int .i64 x) := by simp [intsA, h]
theorem intsA_set (l : List Int) (i : Nat) (x : Int) : (intsA l).setIfInBounds i (.int .i64 x) = intsA (l.set i x) := by
  apply Array.ext'
  simp [intsA, List.map_set]
theorem Blk.setI {w : World} {b : Nat} {l : List Int} (h : Blk w b 3 (intsA l)) (i : Nat) (x : Int) : Blk (w.setCell ⟨b, i, none⟩ (.int .i64 x)) b 3 (intsA (l.set i x)) := by
  have := h.set i (.int .i64 x)
  rwa [intsA_set] at this
theorem Blk.cellI {w : World} {b : Nat} {l : List Int} (h : Blk w b 3 (intsA l)) {i : Nat} {x : Int} (hx : l[i]? = some x) : w.cell? ⟨b, i, none⟩ = some (.int .i64 x) := h.cell (intsA_at hx)
/-- A slice of numbers, or nil, read as a list. -/
def IntsR (w : World) (v : Value) (l : List Int) : Prop := (∃ a cap, v = .slice a 0 cap ∧ l = []) ∨ ∃ s o cap, v = .slice (some ⟨s, o, none⟩) l.length cap ∧ s < w.heap.size ∧ ∀ (i : Nat) (x : Int), l[i]? = some x → w.cell? ⟨s, o + i, none⟩ = some (.int .i64 x)
theorem IntsR.below {w w' : World} {v : Value} {l : List Int} (h : IntsR w v l) (hb : Below w.heap.size w w') : IntsR w' v l := by
  rcases h with h | ⟨s, o, cap, h1, h2, h3⟩
  · exact .inl h
  · exact .inr ⟨s, o, cap, h1, Nat.lt_of_lt_of_le h2 hb.size, fun i x hx => (hb.cell (p := ⟨s, o + i, none⟩) h2).trans (h3 i x hx)⟩
theorem IntsR.len {w : World} {v : Value} {l : List Int} (h : IntsR w v l) : ∃ a cap, v = .slice a l.length cap := by
  rcases h with ⟨a, cap, rfl, rfl⟩ | ⟨s, o, cap, rfl, _⟩
  · exact ⟨_, _, rfl⟩
  · exact ⟨_, _, rfl⟩
theorem IntsR.some {w : World} {v : Value} {l : List Int} (h : IntsR w v l) (h0 : 0 < l.length) : ∃ s o cap, v = .slice (some ⟨s, o, none⟩) l.length cap ∧ s < w.heap.size ∧ ∀ (i : Nat) (x : Int), l[i]? = some x → w.cell? ⟨s, o + i, none⟩ = some (.int .i64 x) := by
  rcases h with ⟨_, _, _, e⟩ | h
  · rw [e] at h0; exact absurd h0 (by simp)
  · exact h
def encJ (l : List Int) : List Value := l.map (fun x => .int .i64 x)
theorem encJ_snoc (l : List Int) (x : Int) : encJ (l ++ [x]) = encJ l ++ [.int .i64 x] := by simp [encJ]
theorem owns_intsR {w : World} {base : Nat} {v : Value} {l : List Int} (h : w.ownsRow base 3 1 v l.length (encJ l)) : IntsR w v l := by
  rcases h.2 with ⟨e, e2⟩ | ⟨g, cap, cur, e, _, hb, _, _, _, ht⟩
  · left
    exact ⟨_, _, e, List.eq_nil_of_length_eq_zero e2⟩
  · right
    refine ⟨g, 0, cap, e, (Array.getElem?_eq_some_iff.1 hb).1, ?_⟩
    intro i x hx
    have hk : Blk w g 3 cur := hb
    rw [Nat.zero_add]
    apply hk.cell
    have hi : i < l.length := (List.getElem?_eq_some_iff.1 hx).1
    have : (encJ l)[i]? = some (.int .i64 x) := by simp [encJ, hx]
    rw [← ht, List.getElem?_take_of_lt (by omega)] at this
    simpa using this
/-- The pairs lie in block s, from its beginning on. -/
structure PrsR (w : World) (s : Nat) (l : List (Nat × Nat)) : Prop where
  lt : s < w.heap.size
  fst : ∀ (i : Nat) (x : Nat × Nat), l[i]? = some x → w.cell? ⟨s, i * 2, none⟩ = some (.int .i64 x.1)
  snd : ∀ (i : Nat) (x : Nat × Nat), l[i]? = some x → w.cell? ⟨s, i * 2 + 1, none⟩ = some (.int .i64 x.2)
theorem PrsR.below {w w' : World} {s : Nat} {l : List (Nat × Nat)} (h : PrsR w s l) (hb : Below w.heap.size w w') : PrsR w' s l :=
  ⟨Nat.lt_of_lt_of_le h.lt hb.size, fun i x hx => (hb.cell (p := ⟨s, i * 2, none⟩) h.lt).trans (h.fst i x hx), fun i x hx => (hb.cell (p := ⟨s, i * 2 + 1, none⟩) h.lt).trans (h.snd i x hx)⟩
theorem PrsR.drew {w : World} {s : Nat} {l : List (Nat × Nat)} (h : PrsR w s l) : PrsR w.drew s l := ⟨h.lt, h.fst, h.snd⟩
theorem encPs_at : ∀ (l : List (Nat × Nat)) (i : Nat) (x : Nat × Nat), l[i]? = some x → (encPs l)[i * 2]? = some (.int .i64 x.1) ∧ (encPs l)[i * 2 + 1]? = some (.int .i64 x.2)
  | [], _, _, h => by simp at h
  | y :: l, 0, x, h => by simp at h; subst h; exact ⟨rfl, rfl⟩
  | y :: l, i + 1, x, h => by
    have := encPs_at l i x (by simpa using h)
    rw [show (i + 1) * 2 = i * 2 + 1 + 1 by omega]
    exact this
theorem encPs_length (l : List (Nat × Nat)) : (encPs l).length = l.length * 2 := by
  induction l with
  | nil => rfl
  | cons x l ih => simp [encPs] at ih ⊢; omega
theorem owns_prs {w : World} {base : Nat} {v : Value} {l : List (Nat × Nat)} (h : w.ownsRow base 37 2 v l.length (encPs l)) :
    (v = .slice none 0 0 ∧ l = []) ∨ ∃ s cap, v = .slice (some ⟨s, 0, none⟩) l.length cap ∧ base ≤ s ∧ PrsR w s l := by
  rcases h.2 with ⟨e, e2⟩ | ⟨g, cap, cur, e, hg, hb, _, _, _, ht⟩
  · exact .inl ⟨e, List.eq_nil_of_length_eq_zero e2⟩
  · right
    have hk : Blk w g 37 cur := hb
    have key : ∀ (j : Nat) (u : Value), j < l.length * 2 → (encPs l)[j]? = some u → w.cell? ⟨g, j, none⟩ = some u := fun j u hj hu => by
      apply hk.cell
      rw [← ht, List.getElem?_take_of_lt (by omega)] at hu
      simpa using hu
    refine ⟨g, cap, e, hg, (Array.getElem?_eq_some_iff.1 hb).1, fun i x hx => ?_, fun i x hx => ?_⟩
    · have hi : i < l.length := (List.getElem?_eq_some_iff.1 hx).1
      exact key _ _ (by omega) (encPs_at l i x hx).1
    · have hi : i < l.length := (List.getElem?_eq_some_iff.1 hx).1
      exact key _ _ (by omega) (encPs_at l i x hx).2
theorem mem_pairsK {L : List Nat} {k : Nat} {x : Nat × Nat} : x ∈ pairsK L k ↔ x.1 < k ∧ x.2 ∈ bitsOf (gr L x.1) := by
  obtain ⟨a, b⟩ := x
  simp [pairsK]
theorem Tryd.infoint : (Tryd.prog.info? 3).map (fun i => (i.zero, i.size, i.bytes)) = some (some (.int .i64 0), 1, 8) := by kernel_rfl
theorem make_ints (n : Nat) (h : n ≤ 65536) (w : World) : (Instr.makeSlice 29 (.int .i64 n) (.int .i64 n)).run Tryd.prog w = .ok (.slice (some ⟨w.heap.size, 0, none⟩) n n) (w.alloc (.cells (intsA (List.replicate n 0)) 3)) := by
  obtain ⟨i, hx, hz, hs, hb⟩ := info_parts Tryd.infoint
  have := run_make (P := Tryd.prog) w 29 3 i _ Tryd.underlying29 hx hz .i64 .i64 n n (by omega) (by omega) (by rw [hb]; omega) (by omega)
  rw [this, hs]
  have e : madeCells (Value.int .i64 0).cells ((n : Int).toNat * 1) = intsA (List.replicate n 0) := by
    apply Array.toList_inj.1
    rw [Int.toNat_natCast, Nat.mul_one, show (Value.int .i64 0).cells = #[.int .i64 0] from rfl, toList_madeCells_one]
    simp [intsA]
  rw [e]
  simp
set_option maxHeartbeats 400000 in
theorem oIsPoint_calls (n : Nat) (p : Int) (w : World) :
    Calls Tryd.prog 48 #[.int .i64 n, .int .i64 p] w fun e w' => e = .returned (.bool (inR n p)) ∧ w' = w := by
  by_cases h0 : 0 ≤ p
  · by_cases h1 : p < n
    · have e : inR n p = true := decide_eq_true ⟨h0, h1⟩
      rw [e]; clear e
      go_enter Tryd.func48, Tryd.ntmps48
      go_wp2
      go_ret
      exact ⟨by simp, rfl⟩
    · have e : inR n p = false := decide_eq_false (by omega)
      rw [e]; clear e
      go_enter Tryd.func48, Tryd.ntmps48
      go_wp2
      go_ret
      exact ⟨by simp, rfl⟩
  · have e : inR n p = false := decide_eq_false (by omega)
    rw [e]; clear e
    go_enter Tryd.func48, Tryd.ntmps48
    go_wp2
    go_ret
    exact ⟨by simp, rfl⟩
end Go.Proofs.YtmmgdeoballhpaaDoor
/- The contracts of slices.Index and slices.Clone at lists of ints. -/
namespace Go.Proofs.YtmmgdeoballhpaaDoor
open Go.RowKit Go.Shelf Sx

/-- The first nought's place, or -1. -/
def fz (l : List Int) : Int := match l.findIdx? (fun x => x == 0) with | some i => (i : Int) | none => -1
theorem fz_at {l : List Int} {k : Nat} (h0 : l[k]? = some 0) (hb : ∀ i, i < k → l[i]? ≠ some 0) : fz l = (k : Int) := by
  obtain ⟨hk, e⟩ := List.getElem?_eq_some_iff.1 h0
  have : l.findIdx? (fun x => x == 0) = some k := by
    rw [List.findIdx?_eq_some_iff_getElem]
    refine ⟨hk, by rw [e]; rfl, fun j hj => ?_⟩
    have := hb j hj
    rw [List.getElem?_eq_getElem (by omega)] at this
    simpa using this
  simp [fz, this]
theorem fz_none {l : List Int} (hb : ∀ i, i < l.length → l[i]? ≠ some 0) : fz l = -1 := by
  have : l.findIdx? (fun x => x == 0) = none := by
    rw [List.findIdx?_eq_none_iff]
    intro x hx
    obtain ⟨i, hi, rfl⟩ := List.mem_iff_getElem.1 hx
    have := hb i hi
    rw [List.getElem?_eq_getElem hi] at this
    simpa using this
  simp [fz, this]
set_option maxHeartbeats 2000000 in
theorem slIndex_calls (v : Value) (l : List Int) (w : World) (hv : IntsR w v l) (hm : l.length ≤ 1000000) :
    Calls Tryd.prog 66 #[v, .int .i64 0] w fun e w' => e = .returned (.int .i64 (fz l)) ∧ Below w.heap.size w w' := by
  have hp : ∃ p cap, v = .slice p l.length cap ∧ (0 < l.length → ∃ s o, p = some ⟨s, o, none⟩ ∧ s < w.heap.size ∧ ∀ (i : Nat) (x : Int), l[i]? = some x → w.cell? ⟨s, o + i, none⟩ = some (.int .i64 x)) := by
    rcases hv with ⟨a, cap, rfl, rfl⟩ | ⟨s, o, cap, rfl, h1, h2⟩
    · exact ⟨_, _, rfl, fun h => by simp at h⟩
    · exact ⟨_, _, rfl, fun _ => ⟨s, o, rfl, h1, h2⟩⟩
  clear hv
  obtain ⟨p, cap, rfl, hp⟩ := hp
  go_enter Tryd.func66, Tryd.ntmps66
  go_wp2_with fail
  go_loopw [8] (fun i wr => ∃ k : Nat, k ≤ l.length ∧ i = .int .i64 k ∧ Hid (∀ i, i < k → l[i]? ≠ some 0) ∧ Below w.heap.size w wr) (fun i _ => l.length - (intOf i).toNat)
  case atStart => exact ⟨0, by omega, rfl, fun i h => by omega, Below.refl _ _⟩
  case round =>
    obtain ⟨k, hk, rfl, HC, hB⟩ := hrel
    by_cases hlt : k < l.length
    · obtain ⟨s, o, rfl, hs, hc⟩ := hp (by omega)
      obtain ⟨x, hx⟩ : ∃ x, l[k]? = some x := ⟨_, List.getElem?_eq_getElem hlt⟩
      have c0 := (hB.cell (p := ⟨s, o + k, none⟩) hs).trans (hc k x hx)
      have HX := hid_of hx
      clear hx hc hp
      cases hz : ((0 : Int) == x)
      · have HZ : Hid (¬ x = 0) := by show ¬ _; intro e; rw [e] at hz; simp at hz
        go_wp2_with fail
        refine ⟨⟨k + 1, by omega, by go_num, ?_, hB⟩, by simp [intOf]; omega⟩
        intro i hi
        by_cases e : i = k
        · rw [e, HX.out]; intro h; exact HZ.out (by injection h)
        · exact HC.out i (by omega)
      · have HZ : Hid (x = 0) := by show x = 0; have := eq_of_beq hz; exact this.symm
        go_wp2_with fail
        go_ret
        refine ⟨?_, hB⟩
        rw [fz_at (k := k) (by rw [HX.out, HZ.out]) HC.out]
        rfl
    · obtain rfl : k = l.length := by omega
      go_wp2_with fail
      go_ret
      exact ⟨by rw [fz_none HC.out]; rfl, hB⟩
end Go.Proofs.YtmmgdeoballhpaaDoor
/- The contract of package order's Linear. -/
namespace Go.Proofs.YtmmgdeoballhpaaDoor
open Go.RowKit Go.Shelf Sx

/-- A slice of pairs, or nil. -/
def PV (w : World) (v : Value) (l : List (Nat × Nat)) : Prop := ∃ p cap, v = .slice p l.length cap ∧ (0 < l.length → ∃ s, p = some ⟨s, 0, none⟩ ∧ PrsR w s l)
theorem owns_pv {w : World} {base : Nat} {v : Value} {l : List (Nat × Nat)} (h : w.ownsRow base 37 2 v l.length (encPs l)) : PV w v l := by
  rcases owns_prs h with ⟨rfl, rfl⟩ | ⟨s, cap, rfl, _, hs⟩
  · exact ⟨_, _, rfl, fun h => by simp at h⟩
  · exact ⟨_, _, rfl, fun _ => ⟨s, rfl, hs⟩⟩
theorem PV.below {w w' : World} {v : Value} {l : List (Nat × Nat)} (h : PV w v l) (hb : Below w.heap.size w w') : PV w' v l := by
  obtain ⟨p, cap, e, h⟩ := h
  exact ⟨p, cap, e, fun h0 => by obtain ⟨s, e2, h2⟩ := h h0; exact ⟨s, e2, h2.below hb⟩⟩
def turnd (pl : List Int) (x : Nat × Nat) : Bool := decide (pl.getD x.2 0 ≤ pl.getD x.1 0)
def anyT (pl : List Int) (l : List (Nat × Nat)) : Bool := l.any (turnd pl)
def putsF (n : Nat) : List Int → Nat → List Int → Option (List Int)
  | [], _, pl => some pl
  | x :: xs, i, pl => if inR n x = true ∧ pl.getD x.toNat 0 = 0 then putsF n xs (i + 1) (pl.set x.toNat ((i : Int) + 1)) else none
def linB (L : List Nat) (l : List Int) : Bool := l.length == L.length && match putsF L.length l 0 (List.replicate L.length 0) with | none => false | some pl => !anyT pl (pairsL L)
set_option maxHeartbeats 1000000 in
theorem lin1_calls (a b B P : Nat) (pl : List Int) (w : World) (hB : Blk w B 29 #[.slice (some ⟨P, 0, none⟩) pl.length pl.length]) (hP : Blk w P 3 (intsA pl)) (ha : a < pl.length) (hb : b < pl.length) :
    Calls Tryd.prog 49 #[.agg #[.int .i64 a, .int .i64 b], pv B] w fun e w' => e = .returned (.bool (turnd pl (a, b))) ∧ Below w.heap.size w w' := by
  have c0 := hB.cell (j := 0) rfl
  have x0 := hP.cellI (List.getElem?_eq_getElem ha)
  have y0 := hP.cellI (List.getElem?_eq_getElem hb)
  have e : turnd pl (a, b) = decide (pl[b] ≤ pl[a]) := by simp [turnd, List.getD, ha, hb]
  have n1 := hB.lt
  have n2 := hP.lt
  rw [e]
  clear e
  generalize pl[a] = x at *
  generalize pl[b] = y at *
  have a0 : (0 : Int) ≤ (a : Int) := by omega
  have a1 : (a : Int) < (pl.length : Int) := by omega
  have b0 : (0 : Int) ≤ (b : Int) := by omega
  have b1 : (b : Int) < (pl.length : Int) := by omega
  go_enter Tryd.func49, Tryd.ntmps49
  go_wp2_with fail
  go_quiet (fail)
  all_goals
    go_wp2_with fail
    go_ret
    exact ⟨rfl, below_drewN ((Below.refl _ _).alloc (Nat.le_refl _) _) _⟩
set_option maxHeartbeats 2000000 in
theorem idxP_calls (B P : Nat) (pl : List Int) (v : Value) (l : List (Nat × Nat)) (w : World) (hv : PV w v l) (hB : Blk w B 29 #[.slice (some ⟨P, 0, none⟩) pl.length pl.length]) (hP : Blk w P 3 (intsA pl))
    (hl : ∀ x ∈ l, x.1 < pl.length ∧ x.2 < pl.length) (hm : l.length ≤ 1000000) :
    Calls Tryd.prog 85 #[v, .func (.func 49) #[] #[pv B]] w fun e w' => ∃ r : Int, e = .returned (.int .i64 r) ∧ decide (0 ≤ r) = anyT pl l ∧ Below w.heap.size w w' := by
  obtain ⟨p, cap, rfl, hp⟩ := hv
  go_enter Tryd.func85, Tryd.ntmps85
  go_wp2_with fail
  go_loopw [8] (fun i wr => ∃ k : Nat, k ≤ l.length ∧ i = .int .i64 k ∧ Hid (anyT pl (l.take k) = false) ∧ Below w.heap.size w wr) (fun i _ => l.length - (intOf i).toNat)
  case atStart => exact ⟨0, by omega, rfl, rfl, Below.refl _ _⟩
  case round =>
    obtain ⟨k, hk, rfl, HC, hBl⟩ := hrel
    by_cases hlt : k < l.length
    · obtain ⟨s, rfl, hs⟩ := hp (by omega)
      obtain ⟨⟨a, b⟩, hx⟩ : ∃ x, l[k]? = some x := ⟨_, List.getElem?_eq_getElem hlt⟩
      have hr := hs.below hBl
      have c0 := hr.fst k _ hx
      have c1 := hr.snd k _ hx
      obtain ⟨ha, hb⟩ := hl _ (List.mem_of_getElem? hx)
      have HE : Hid (anyT pl (l.take (k + 1)) = turnd pl (a, b)) := by
        show _ = _
        rw [List.take_add_one, hx]
        have := HC.out
        simp [anyT] at this ⊢
        intro u v hu he
        exact absurd he (by rw [this u v hu]; simp)
      clear hx
      cases ht : turnd pl (a, b)
      · go_wp2_with fail
        refine (lin1_calls a b B P pl _ (hB.of_below hBl) (hP.of_below hBl) ha hb).mono ?_
        rw [ht]
        rintro e w1 ⟨rfl, hB1⟩
        go_wp2_with fail
        refine ⟨⟨k + 1, by omega, by go_num, HE.out.trans ht, below_step hBl hBl.size hB1⟩, by simp [intOf]; omega⟩
      · go_wp2_with fail
        refine (lin1_calls a b B P pl _ (hB.of_below hBl) (hP.of_below hBl) ha hb).mono ?_
        rw [ht]
        rintro e w1 ⟨rfl, hB1⟩
        go_wp2_with fail
        go_ret
        refine ⟨_, rfl, ?_, below_step hBl hBl.size hB1⟩
        have h1 := HE.out.trans ht
        rw [show anyT pl l = true from ?_]
        · simp
        · simp [anyT] at h1 ⊢
          obtain ⟨u, v, hu, he⟩ := h1
          exact ⟨u, v, List.mem_of_mem_take hu, he⟩
    · obtain rfl : k = l.length := by omega
      have h1 := HC.out
      rw [List.take_length] at h1
      go_wp2_with fail
      go_ret
      exact ⟨_, rfl, by rw [h1]; rfl, hBl⟩
set_option maxHeartbeats 2000000 in
theorem contP_calls (B P : Nat) (pl : List Int) (v : Value) (l : List (Nat × Nat)) (w : World) (hv : PV w v l) (hB : Blk w B 29 #[.slice (some ⟨P, 0, none⟩) pl.length pl.length]) (hP : Blk w P 3 (intsA pl))
    (hl : ∀ x ∈ l, x.1 < pl.length ∧ x.2 < pl.length) (hm : l.length ≤ 1000000) :
    Calls Tryd.prog 50 #[v, .func (.func 49) #[] #[pv B]] w fun e w' => e = .returned (.bool (anyT pl l)) ∧ Below w.heap.size w w' := by
  have hc := idxP_calls B P pl v l w hv hB hP hl hm
  clear hv hB hP hl
  go_enter Tryd.func50, Tryd.ntmps50
  go_wp2_with fail
  refine hc.mono ?_
  rintro e w1 ⟨r, rfl, hr, hB1⟩
  have Hr := hid_of hr
  clear hr
  go_wp2_with fail
  go_ret
  exact ⟨by rw [← Hr.out]; rfl, hB1⟩
theorem putsF_step {n : Nat} {l : List Int} {k : Nat} {pl : List Int} {x : Int} (hx : l[k]? = some x) : putsF n (l.drop k) k pl = if inR n x = true ∧ pl.getD x.toNat 0 = 0 then putsF n (l.drop (k + 1)) (k + 1) (pl.set x.toNat ((k : Int) + 1)) else none := by
  obtain ⟨hk, e⟩ := List.getElem?_eq_some_iff.1 hx
  rw [List.drop_eq_getElem_cons hk, e]
  rfl
theorem pairsL_lt {L : List Nat} (h : ∀ R ∈ L, R < 2 ^ L.length) : ∀ x ∈ pairsL L, x.1 < L.length ∧ x.2 < L.length := by
  intro x hx
  obtain ⟨h1, h2⟩ := mem_pairsK.1 hx
  refine ⟨h1, ?_⟩
  have h3 : gr L x.1 < 2 ^ L.length := gr_lt h
  apply Nat.lt_of_not_le
  intro hle
  have h4 := mem_bitsN.1 h2
  rw [testBit_of_lt h3 hle] at h4
  cases h4.2
set_option maxHeartbeats 4000000 in
theorem oLinear_calls (b c : Nat) (L : List Nat) (v : Value) (l : List Int) (w : World) (h : IsRel w b c L) (hT : Tab w) (hv : IntsR w v l) :
    Calls Tryd.prog 21 #[pv b, v] w fun e w' => e = .returned (.bool (linB L l)) ∧ Below w.heap.size w w' := by
  have hl := h.len
  by_cases hn : l.length = L.length
  · have hp : ∃ p cap, v = .slice p l.length cap ∧ (0 < l.length → ∃ s o, p = some ⟨s, o, none⟩ ∧ s < w.heap.size ∧ ∀ (i : Nat) (x : Int), l[i]? = some x → w.cell? ⟨s, o + i, none⟩ = some (.int .i64 x)) := by
      rcases hv with ⟨a, cap, rfl, rfl⟩ | ⟨s, o, cap, rfl, h1, h2⟩
      · exact ⟨_, _, rfl, fun h => by simp at h⟩
      · exact ⟨_, _, rfl, fun _ => ⟨s, o, rfl, h1, h2⟩⟩
    clear hv
    obtain ⟨p, cap, rfl, hp⟩ := hp
    have e0 : linB L l = match putsF L.length l 0 (List.replicate L.length 0) with | none => false | some pl => !anyT pl (pairsL L) := by simp [linB, hn]
    have HE0 := hid_of e0
    clear e0
    have hmk := make_ints L.length (by omega)
    have hne : ((l.length : Int) != (L.length : Int)) = false := by simp; omega
    go_enter Tryd.func21, Tryd.ntmps21
    go_wp2_with (go_at_call 30; refine (Len_calls b c L _ h).mono ?_; rintro e w' ⟨rfl, hw'⟩; obtain rfl : w = w' := hw'.symm)
    have hB0 : Below w.heap.size w ((w.alloc (.cells (intsA (List.replicate L.length 0)) 3)).alloc (.cells #[.slice (some ⟨w.heap.size, 0, none⟩) L.length L.length] 29)) := ((Below.refl _ _).alloc (Nat.le_refl _) _).alloc (by simp) _
    go_loopw [20] (fun i wr => ∃ (k : Nat) (pl : List Int), k ≤ l.length ∧ i = .int .i64 k ∧ pl.length = L.length ∧ Blk wr w.heap.size 3 (intsA pl) ∧ Blk wr (w.heap.size + 1) 29 #[.slice (some ⟨w.heap.size, 0, none⟩) L.length L.length] ∧ Hid (putsF L.length l 0 (List.replicate L.length 0) = putsF L.length (l.drop k) k pl) ∧ Below w.heap.size w wr) (fun i _ => l.length - (intOf i).toNat)
    case atStart => exact ⟨0, _, by omega, rfl, by simp, (Blk.new _ _ _).alloc _, by have := Blk.new (w.alloc (.cells (intsA (List.replicate L.length 0)) 3)) 29 #[.slice (some ⟨w.heap.size, 0, none⟩) L.length L.length]; rwa [World.size_alloc] at this, rfl, hB0⟩
    case round =>
      clear hB0 hmk
      obtain ⟨k, pl, hk, rfl, hpl, hP, hQ, HC, hBl⟩ := hrel
      by_cases hlt : k < l.length
      · obtain ⟨s, o, rfl, hs, hc⟩ := hp (by omega)
        obtain ⟨x, hx⟩ : ∃ x, l[k]? = some x := ⟨_, List.getElem?_eq_getElem hlt⟩
        have c0 := (hBl.cell (p := ⟨s, o + k, none⟩) hs).trans (hc k x hx)
        have q0 := hQ.cell (j := 0) rfl
        have HE : Hid (_ = _) := HC.out.trans (putsF_step hx)
        clear HC hx
        cases hi : inR L.length x
        · have HI := hid_of hi
          rw [hi] at HE
          clear hi
          go_wp2_with (go_at_call 48; refine (oIsPoint_calls _ x _).mono ?_; rw [HI.out]; rintro e w' ⟨rfl, rfl⟩)
          go_ret
          have := HE.out
          rw [if_neg (by simp)] at this
          have hr : linB L l = false := HE0.out.trans (by rw [this])
          exact ⟨by rw [hr]; rfl, hBl⟩
        · have HI := hid_of hi
          rw [hi] at HE
          obtain ⟨j, rfl, hj⟩ := inR_true hi
          clear hi
          have hj2 : j < pl.length := by omega
          have d0 := hP.cellI (List.getElem?_eq_getElem hj2)
          have f0 := hP.frozen j
          have j0 : (0 : Int) ≤ (j : Int) := by omega
          have j1 : (j : Int) < (L.length : Int) := by omega
          have HG : Hid (pl.getD (((j : Nat) : Int)).toNat 0 = pl[j]) := by show _ = _; simp [List.getD, hj2]
          cases hz : (pl[j] != 0)
          · have HZ : Hid (pl[j] = 0) := by show _ = _; simpa using hz
            generalize pl[j] = y at *
            go_wp2_with (go_at_call 48; refine (oIsPoint_calls _ _ _).mono ?_; rw [HI.out]; rintro e w' ⟨rfl, rfl⟩)
            refine ⟨⟨k + 1, pl.set j ((k : Int) + 1), by omega, by go_num, by simpa using hpl, hP.setI _ _, hQ.setOther (by simp) _, ?_, hBl.setCell (by simp) _⟩, by simp [intOf]; omega⟩
            have := HE.out
            rw [if_pos ⟨by trivial, HG.out.trans HZ.out⟩] at this
            exact this
          · have HZ : Hid (¬ pl[j] = 0) := by show ¬ _; simpa using hz
            generalize pl[j] = y at *
            go_wp2_with (go_at_call 48; refine (oIsPoint_calls _ _ _).mono ?_; rw [HI.out]; rintro e w' ⟨rfl, rfl⟩)
            go_ret
            have := HE.out
            rw [if_neg (fun h => HZ.out (HG.out.symm.trans h.2))] at this
            have hr : linB L l = false := HE0.out.trans (by rw [this])
            exact ⟨by rw [hr]; rfl, hBl⟩
      · obtain rfl : k = l.length := by omega
        have e1 := HC.out
        rw [List.drop_length, show putsF L.length [] l.length pl = some pl from rfl] at e1
        have HE := hid_of e1
        clear e1 HC
        go_wp2_with fail
        refine (Pairs_calls b c L _ (h.below hBl) (hT.step hBl)).mono ?_
        rintro e w1 ⟨v1, rfl, ho, hB1⟩
        have hQ1 := hQ.of_below hB1
        rw [← hpl] at hQ1
        have hlow : ∀ x ∈ pairsL L, x.1 < pl.length ∧ x.2 < pl.length := by rw [hpl]; exact pairsL_lt h.low
        have hlen : (pairsL L).length ≤ 1000000 := by have := pairsK_length L L.length; simp only [pairsL]; omega
        go_wp2_with fail
        refine (contP_calls _ _ pl v1 (pairsL L) _ (owns_pv ho) hQ1 (hP.of_below hB1) hlow hlen).mono ?_
        rintro e w2 ⟨rfl, hB2⟩
        go_wp2_with fail
        go_ret
        have hr : linB L l = !anyT pl (pairsL L) := HE0.out.trans (by rw [HE.out])
        exact ⟨by rw [hr]; rfl, below_step (below_step hBl hBl.size hB1) (Nat.le_trans hBl.size hB1.size) hB2⟩
  · obtain ⟨a, cap, rfl⟩ := hv.len
    have e0 : linB L l = false := by simp [linB, hn]
    rw [e0]
    have hne : ((l.length : Int) != (L.length : Int)) = true := by simp; omega
    go_enter Tryd.func21, Tryd.ntmps21
    go_wp2_with (go_at_call 30; refine (Len_calls b c L _ h).mono ?_; rintro e w' ⟨rfl, hw'⟩; obtain rfl : w = w' := hw'.symm)
    go_ret
    exact ⟨rfl, Below.refl _ _⟩
end Go.Proofs.YtmmgdeoballhpaaDoor
/- Lists of truths in memory (ImageWalk has the same for stage 1's seat). -/
namespace Go.Proofs.YtmmgdeoballhpaaDoor
open Go.RowKit Go.Shelf Sx

def arrB (l : List Bool) : Array Value := (l.map Value.bool).toArray
theorem arrB_set (l : List Bool) (q : Nat) (b : Bool) : (arrB l).setIfInBounds q (.bool b) = arrB (l.set q b) := by simp [arrB]
theorem Tryd.infobool : (Tryd.prog.info? 4).map (fun i => (i.zero, i.size, i.bytes)) = some (some (.bool false), 1, 1) := by kernel_rfl
theorem make_bools (n : Nat) (h : n ≤ 256) (w : World) : (Instr.makeSlice 91 (.int .i64 n) (.int .i64 n)).run Tryd.prog w = .ok (.slice (some ⟨w.heap.size, 0, none⟩) n n) (w.alloc (.cells (arrB (List.replicate n false)) 4)) := by
  obtain ⟨i, hx, hz, hs, hb⟩ := info_parts Tryd.infobool
  have := run_make (P := Tryd.prog) w 91 4 i _ Tryd.underlying91 hx hz .i64 .i64 n n (by omega) (by omega) (by rw [hb]; omega) (by omega)
  rw [this, hs]
  have e : madeCells (Value.bool false).cells ((n : Int).toNat * 1) = arrB (List.replicate n false) := by
    apply Array.toList_inj.1
    rw [Int.toNat_natCast, Nat.mul_one, show (Value.bool false).cells = #[.bool false] from rfl, toList_madeCells_one]
    simp [arrB]
  rw [e]
  rfl
end Go.Proofs.YtmmgdeoballhpaaDoor
