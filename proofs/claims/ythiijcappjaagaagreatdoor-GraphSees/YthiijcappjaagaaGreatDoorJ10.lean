/- The contract of package rel's Pairs. -/
import Derived.Test.YthiijcappjaagaaGreatDoorJ09
import Derived.RangeFuncBox
import Derived.Maps.AppendAt
namespace Go.Proofs.YthiijcappjaagaaGreatDoor
open Go.RowKit Go.Shelf Sx
attribute [local go_sem] Oper.semAt_some
theorem ownFrom_rows {β : Type} {B : Nat} {I : β → World → Prop} (hs : ∀ s W, I s W → B ≤ W.heap.size)
    (h : ∀ s W W', I s W → Below B W W' → (∀ base e size v k xs, W.ownsRow base e size v k xs → W'.ownsRow base e size v k xs) → I s W') : OwnFrom B I :=
  fun s W W' row hi hg hr => h s W W' hi ((Below.refl B W).grown hg (hs s W hi) (fun k e => (hr k e).1)) fun base e size v k xs ho => by
    refine ho.kept hg ?_
    rcases ho.2 with ⟨rfl, _⟩ | ⟨g, cap, cur, rfl, _, hgb, _⟩
    · exact .inl rfl
    · refine .inr fun e' => ?_
      obtain ⟨_, o, ho, hc⟩ := hr g (by simpa [Value.ownBlock] using e'.symm)
      rw [hgb] at ho; cases ho; cases hc
def encPs (l : List (Nat × Nat)) : List Value := l.flatMap (fun x => [.int .i64 ((x.1 : Nat) : Int), .int .i64 ((x.2 : Nat) : Int)])
theorem encPs_snoc (l : List (Nat × Nat)) (a b : Nat) : encPs (l ++ [(a, b)]) = encPs l ++ [.int .i64 ((a : Nat) : Int), .int .i64 ((b : Nat) : Int)] := by simp [encPs]
def pairsK (L : List Nat) (k : Nat) : List (Nat × Nat) := (List.range k).flatMap (fun p => (bitsOf (gr L p)).map (fun q => (p, q)))
def pairsL (L : List Nat) : List (Nat × Nat) := pairsK L L.length
theorem pairsK_succ (L : List Nat) (k : Nat) : pairsK L (k + 1) = pairsK L k ++ (bitsOf (gr L k)).map (fun q => (k, q)) := by simp [pairsK, List.range_succ]
theorem pairsK_length (L : List Nat) (k : Nat) : (pairsK L k).length ≤ 256 * k := by
  induction k with
  | zero => simp [pairsK]
  | succ k ih => rw [pairsK_succ, List.length_append, List.length_map]; have := bitsOf_length (gr L k); omega
theorem Tryz.infopair : (Tryz.prog.info? 77).map (fun i => (i.zero, i.size, i.bytes)) = some (some (.agg #[.int .i64 0, .int .i64 0]), 2, 16) := by kernel_rfl
theorem news_two (w : World) (a b : Value) (t : TypeId) : ∀ j u, [a, b][j]? = some u → (w.alloc (.cells #[a, b] t)).cell? ((⟨w.heap.size, 0, none⟩ : Addr).add j) = some u := by
  intro j u hj
  have h := Blk.new w t #[a, b]
  match j, hj with
  | 0, hj => simp at hj; subst hj; exact h.cell (j := 0) rfl
  | 1, hj => simp at hj; subst hj; exact h.cell (j := 1) rfl
  | j + 2, hj => simp at hj
theorem shut_owns {n : Nat} {base : Nat} {e : TypeId} {size : Nat} {v : Value} {k : Nat} {xs : List Value} : ∀ {Ds : List Nat} {W : World}, Marks n W Ds → W.ownsRow base e size v k xs → (shut W Ds).ownsRow base e size v k xs
  | [], _, _, hb => hb
  | D :: Ds, W, h, hb => (show (shut (W.putObj D (.deferred none)) Ds).ownsRow base e size v k xs from shut_owns h.tail (ownsRow_putObj hb _ (h.lies D (by simp)).2 rfl))
set_option maxRecDepth 100000 in
set_option maxHeartbeats 2000000 in
theorem Pairs_in (b c : Nat) (L : List Nat) (w : World) (h : IsRel w b c L) (hT : Tab w) :
    CallsIn Fence.wide 6 Tryz.prog 49 #[pv b] w fun e w' => ∃ v, e = .returned v ∧ w'.ownsRow w.heap.size 77 2 v (pairsL L).length (encPs (pairsL L)) ∧ Below w.heap.size w w' := by
  have hl := h.len
  have hh := h.hcell
  have hlt1 := h.head.lt
  have hlt2 := h.rows.lt
  refine callsIn_of_wp_marks Tryz.func49 rfl trivial ?_ rfl
  simp only [Tryz.ntmps49, List.size_toArray, List.length_cons, List.length_nil, Nat.reduceAdd, Nat.reduceSub, Array.replicate_succ, Array.replicate_zero, List.push_toArray, List.append_toArray, List.nil_append, List.cons_append]
  gi_wp2_with fail
  clear hh
  obtain ⟨i0, hi, hz0, hz1, hz2⟩ := info_parts Tryz.infopair
  refine wpIn_loop (fun a wr => ∃ (k : Nat) (Ds : List Nat) (u4 u5 u6 u13 u14 u15 u16 u17 u18 u19 u20 u21 u22 u23 u24 u25 u26 : Value), (k ≤ L.length ∧ (∃ v, Boxed wr w.heap.size 23 v ∧ wr.ownsRow w.heap.size 77 2 v (pairsK L k).length (encPs (pairsK L k))) ∧ Below w.heap.size w wr ∧ Marks w.heap.size wr Ds) ∧ a = { tmps := #[pv b, undef, .slice none 0 0, pv w.heap.size, u4, u5, u6, pv b, pv b, pv b, .slice (some ⟨c, 0, none⟩) L.length L.length, .int .i64 L.length, .int .i64 k, u13, u14, u15, u16, u17, u18, u19, u20, u21, u22, u23, u24, u25, u26, undef], defers := Ds.map mark })
    (fun a _ => L.length - (intOf (a.tmps.getD 12 undef)).toNat) ?start ?round
  case start =>
    refine ⟨0, [], _, _, _, _, _, _, _, _, _, _, _, _, _, _, _, _, _, ⟨by omega, ⟨.slice none 0 0, Boxed.new w _ _, World.ownsRow_nil _ _ _ _⟩, (Below.refl _ w).alloc (Nat.le_refl _) _, Marks.nil _ _⟩, rfl⟩
  case round =>
    rintro _ wr ⟨k, Ds, u4, u5, u6, u13, u14, u15, u16, u17, u18, u19, u20, u21, u22, u23, u24, u25, u26, ⟨hk, ⟨v, hv, hrow⟩, hB, hD⟩, rfl⟩
    by_cases hlt : k < L.length
    · have hro := h.below hB
      obtain ⟨hh, ⟨x0, x1, x2, x3⟩, _, q1, q2⟩ := hro.slots (gr_of hlt)
      have HE : Hid (_ = _) := pairsK_succ L k
      have hlen := pairsK_length L k
      have hd : decide ((k : Int) < (L.length : Int)) = true := decide_eq_true (by omega)
      gi_wp2_with (refine ⟨trivial, ?_⟩; gi_at_call 83; refine (points_in Fence.wide _ trivial rfl (gr L k) _).mono ?_; rintro e w' ⟨rfl, rfl⟩)
      clear x0 x1 x2 x3 hh
      have hTr := hT.step hB
      have hs1 := hv.lt
      have hs2 := hB.size
      have hpos := hT.pos
      have hDlt := hD.lt
      refine wpIn_rangeFunc_ownF rfl (by omega) (gf := 108) (lb := #[.pointer (some ⟨wr.heap.size + 1 + 1, 0, none⟩)]) rfl trivial (enters_of Tryz.func108 (by kernel_rfl) rfl)
        (points_stops (gr L k) (wr.heap.size + 1 + 1) (6 - 1) (by omega) _ ?hB ?hT) belowK_t (belowK_b (by simp)) (Below.refl _ _) (fun _ => rfl)
        (fun pre W => wr.heap.size + 1 + 1 + 1 ≤ W.heap.size ∧ Blk W wr.heap.size 3 #[.int .i64 k] ∧ (∃ v, Boxed W w.heap.size 23 v ∧ W.ownsRow w.heap.size 77 2 v (pairsK L k ++ (vals pre).map (fun q => (k, q))).length (encPs (pairsK L k ++ (vals pre).map (fun q => (k, q))))) ∧ Tab W ∧ Marks w.heap.size W Ds ∧ Below w.heap.size w W)
        (fun _ _ _ => False) ?hI (fun _ => ownFrom_false) ?h0
        (fun x => { tmps := #[pv b, undef, .slice none 0 0, pv w.heap.size, pv wr.heap.size, pv (wr.heap.size + 1), .int .i64 ((x.1 : Nat) : Int), pv b, pv b, pv b, .slice (some ⟨c, 0, none⟩) L.length L.length, .int .i64 L.length, .int .i64 k, .bool true, .int .i64 k, .pointer (some ⟨c, k * 4, none⟩), rv (gr L k), rv (gr L k), .func (.func 108) #[] #[.pointer (some ⟨wr.heap.size + 1 + 1, 0, none⟩)], .int .i64 ((x.1 : Nat) : Int), u20, u21, u22, u23, u24, u25, u26, undef], defers := [] }) ?assign ?body ?done ?stop
      case hB => exact Blk.new3 _ _ _ _ _
      case hT => exact ((hTr.alloc _).alloc _).alloc _
      case hI =>
        refine ownFrom_rows (fun s W hi => by simpa using hi.1) ?_
        rintro s W W' ⟨h1, h2, ⟨v, h3, h4⟩, h5, h6, h7⟩ hb' ho
        have hb' : Below (wr.heap.size + 1 + 1 + 1) W W' := by simpa using hb'
        exact ⟨Nat.le_trans h1 hb'.size, h2.below hb' (by omega), ⟨v, (hb'.block _ (by omega)).trans h3, ho _ _ _ _ _ _ h4⟩, h5.below hb' (by omega), h6.below hb' (fun D hD => by have := hDlt D hD; omega), h7.trans (hb'.mono (by omega))⟩
      case h0 =>
        refine ⟨by simp, ((Blk.new wr _ _).alloc _).alloc _, ⟨v, ((hv.alloc _).alloc _).alloc _, ?_⟩, ((hTr.alloc _).alloc _).alloc _, hD.keeps (((KeepsOthers.alloc _ _).trans (KeepsOthers.alloc _ _)).trans (KeepsOthers.alloc _ _)), ((hB.alloc hs2 _).alloc (by simp; omega) _).alloc (by simp; omega) _⟩
        rw [show vals (R := gr L k) [] = [] from rfl, List.map_nil, List.append_nil]
        exact ((hrow.alloc _).alloc _).alloc _
      case assign =>
        intro l x W K hK
        gi_wp2
        exact hK
      case body =>
        rintro l pre x W ⟨h1, h2, ⟨v, h3, h4⟩, h5, h6, h7⟩ hplen
        have k0 : W.cell? ⟨w.heap.size, 0, none⟩ = some v := h3.cell
        have k1 : W.cell? ⟨wr.heap.size, 0, none⟩ = some (.int .i64 k) := h2.cell rfl
        have hn1 : (pairsK L k ++ (vals pre).map (fun q => (k, q))).length ≤ 256 * k + 256 := by simp [vals]; omega
        have HS : Hid (encPs (pairsK L k ++ (vals (pre ++ [x])).map (fun q => (k, q))) = encPs (pairsK L k ++ (vals pre).map (fun q => (k, q))) ++ [.int .i64 ((k : Nat) : Int), .int .i64 ((x.1 : Nat) : Int)] ∧ (pairsK L k ++ (vals (pre ++ [x])).map (fun q => (k, q))).length = (pairsK L k ++ (vals pre).map (fun q => (k, q))).length + 1) := by
          rw [vals_snoc, List.map_append, ← List.append_assoc]
          exact ⟨encPs_snoc _ _ _, by simp; omega⟩
        generalize pairsK L k ++ (vals pre).map (fun q => (k, q)) = lst at *
        clear HE hlen hrow
        gi_wp2_with (gi_at_builtin; refine wpListIn_append_own _ rfl _ _ 23 rfl w.heap.size 77 i0 (.agg #[.int .i64 0, .int .i64 0]) 2 16 Tryz.underlying23 hi hz0 hz1 hz2 rfl (by decide) _ _ _ rfl (h4.alloc _) ⟨W.heap.size, 0, none⟩ 1 1 [.int .i64 ((k : Nat) : Int), .int .i64 ((x.1 : Nat) : Int)] rfl rfl (news_two _ _ _ _) (by simp [Value.oneCell']) (by unfold maxLen; omega) (by omega) (by have := h7.size; simp; omega) ?_; intro v' w2 hown' hgrow _; obtain ⟨g', cap', rfl⟩ := ownsRow_succ hown'; obtain ⟨hv1, hv2, hr2, hk2, hb2⟩ := h3.appended (by decide) h4 h7.size (Nat.le_refl _) hown' hgrow; have hc1 := hv1.cell; have hf1 := hv1.frozen)
        refine ⟨hk2, hb2.mono (by omega), Nat.le_trans h1 hk2.size, ?_, ⟨_, hv2, ?_⟩, h5.below hb2 (by omega), h6.keeps hk2, h7.trans hb2⟩
        · have h2b : Boxed W wr.heap.size 3 (.int .i64 k) := h2
          have := ((h2b.alloc (.cells #[.int .i64 ((k : Nat) : Int), .int .i64 ((x.1 : Nat) : Int)] 77)).kept hgrow (h2b.not_row (by decide) h4))
          exact (show Blk w2 wr.heap.size 3 #[.int .i64 k] from this).setOther (by simp; omega) _
        · rw [HS.out.1, HS.out.2]; exact hr2
      case done =>
        rintro D ys W hDD hys ⟨h1, h2, ⟨v, h3, h4⟩, h5, h6, h7⟩ hK
        rw [hys, ← HE.out] at h4
        gi_wp2
        have hm2 : Marks w.heap.size W (D :: Ds) := h6.cons hK (by simp at hDD; omega) (fun E hE => by have := hDlt E hE; simp at hDD; omega)
        refine ⟨?_, ?_⟩
        · refine ⟨k + 1, D :: Ds, ?_⟩
          repeat apply Exists.intro
          exact ⟨⟨by omega, ⟨v, h3, h4⟩, h7, hm2⟩, rfl⟩
        · simp [intOf]; omega
      case stop =>
        rintro D c pre W _ _ h _
        exact h.elim
    · obtain rfl : k = L.length := by omega
      have k0 : wr.cell? ⟨w.heap.size, 0, none⟩ = some v := hv.cell
      gi_wp2
      exact leave_marks hD ⟨_, results_tmp rfl _ _ _, v, rfl, shut_owns hD hrow, hB.trans (shut_below hD)⟩
theorem Pairs_calls (b c : Nat) (L : List Nat) (w : World) (h : IsRel w b c L) (hT : Tab w) :
    Calls Tryz.prog 49 #[pv b] w fun e w' => ∃ v, e = .returned v ∧ w'.ownsRow w.heap.size 77 2 v (pairsL L).length (encPs (pairsL L)) ∧ Below w.heap.size w w' := callsIn_wide.1 (Pairs_in b c L w h hT)
end Go.Proofs.YthiijcappjaagaaGreatDoor
namespace Go.Proofs.YthiijcappjaagaaGreatDoor
open Go.RowKit Go.Shelf Sx
def IntsR (w : World) (v : Value) (l : List Int) : Prop := (∃ a cap, v = .slice a 0 cap ∧ l = []) ∨ ∃ s o cap, v = .slice (some ⟨s, o, none⟩) l.length cap ∧ s < w.heap.size ∧ ∀ (i : Nat) (x : Int), l[i]? = some x → w.cell? ⟨s, o + i, none⟩ = some (.int .i64 x)
theorem IntsR.below {w w' : World} {v : Value} {l : List Int} (h : IntsR w v l) (hb : Below w.heap.size w w') : IntsR w' v l := by
  rcases h with h | ⟨s, o, cap, h1, h2, h3⟩
  · exact .inl h
  · exact .inr ⟨s, o, cap, h1, Nat.lt_of_lt_of_le h2 hb.size, fun i x hx => (hb.cell (p := ⟨s, o + i, none⟩) h2).trans (h3 i x hx)⟩
theorem IntsR.len {w : World} {v : Value} {l : List Int} (h : IntsR w v l) : ∃ a cap, v = .slice a l.length cap := by
  rcases h with ⟨a, cap, rfl, rfl⟩ | ⟨s, o, cap, rfl, _⟩
  · exact ⟨_, _, rfl⟩
  · exact ⟨_, _, rfl⟩
theorem IntsR.some {w : World} {v : Value} {l : List Int} (h : IntsR w v l) (h0 : 0 < l.length) : ∃ s o cap, v = .slice (some ⟨s, o, none⟩) l.length cap ∧ s < w.heap.size ∧ ∀ (i : Nat) (x : Int), l[i]? = some x → w.cell? ⟨s, o + i, none⟩ = some (.int .i64 x) := by
  rcases h with ⟨_, _, _, e⟩ | h
  · rw [e] at h0; exact absurd h0 (by simp)
  · exact h
def encJ (l : List Int) : List Value := l.map (fun x => .int .i64 x)
theorem owns_intsR {w : World} {base : Nat} {v : Value} {l : List Int} (h : w.ownsRow base 3 1 v l.length (encJ l)) : IntsR w v l := by
  rcases h.2 with ⟨e, e2⟩ | ⟨g, cap, cur, e, _, hb, _, _, _, ht⟩
  · left
    exact ⟨_, _, e, List.eq_nil_of_length_eq_zero e2⟩
  · right
    refine ⟨g, 0, cap, e, (Array.getElem?_eq_some_iff.1 hb).1, ?_⟩
    intro i x hx
    have hk : Blk w g 3 cur := hb
    rw [Nat.zero_add]
    apply hk.cell
    have hi : i < l.length := (List.getElem?_eq_some_iff.1 hx).1
    have : (encJ l)[i]? = some (.int .i64 x) := by simp [encJ, hx]
    rw [← ht, List.getElem?_take_of_lt (by omega)] at this
    simpa using this
structure PrsR (w : World) (s : Nat) (l : List (Nat × Nat)) : Prop where
  lt : s < w.heap.size
  fst : ∀ (i : Nat) (x : Nat × Nat), l[i]? = some x → w.cell? ⟨s, i * 2, none⟩ = some (.int .i64 x.1)
  snd : ∀ (i : Nat) (x : Nat × Nat), l[i]? = some x → w.cell? ⟨s, i * 2 + 1, none⟩ = some (.int .i64 x.2)
theorem PrsR.below {w w' : World} {s : Nat} {l : List (Nat × Nat)} (h : PrsR w s l) (hb : Below w.heap.size w w') : PrsR w' s l :=
  ⟨Nat.lt_of_lt_of_le h.lt hb.size, fun i x hx => (hb.cell (p := ⟨s, i * 2, none⟩) h.lt).trans (h.fst i x hx), fun i x hx => (hb.cell (p := ⟨s, i * 2 + 1, none⟩) h.lt).trans (h.snd i x hx)⟩
theorem PrsR.drew {w : World} {s : Nat} {l : List (Nat × Nat)} (h : PrsR w s l) : PrsR w.drew s l := ⟨h.lt, h.fst, h.snd⟩
theorem encPs_at : ∀ (l : List (Nat × Nat)) (i : Nat) (x : Nat × Nat), l[i]? = some x → (encPs l)[i * 2]? = some (.int .i64 x.1) ∧ (encPs l)[i * 2 + 1]? = some (.int .i64 x.2)
  | [], _, _, h => by simp at h
  | y :: l, 0, x, h => by simp at h; subst h; exact ⟨rfl, rfl⟩
  | y :: l, i + 1, x, h => by
    have := encPs_at l i x (by simpa using h)
    rw [show (i + 1) * 2 = i * 2 + 1 + 1 by omega]
    exact this
theorem owns_prs {w : World} {base : Nat} {v : Value} {l : List (Nat × Nat)} (h : w.ownsRow base 77 2 v l.length (encPs l)) :
    (v = .slice none 0 0 ∧ l = []) ∨ ∃ s cap, v = .slice (some ⟨s, 0, none⟩) l.length cap ∧ base ≤ s ∧ PrsR w s l := by
  rcases h.2 with ⟨e, e2⟩ | ⟨g, cap, cur, e, hg, hb, _, _, _, ht⟩
  · exact .inl ⟨e, List.eq_nil_of_length_eq_zero e2⟩
  · right
    have hk : Blk w g 77 cur := hb
    have key : ∀ (j : Nat) (u : Value), j < l.length * 2 → (encPs l)[j]? = some u → w.cell? ⟨g, j, none⟩ = some u := fun j u hj hu => by
      apply hk.cell
      rw [← ht, List.getElem?_take_of_lt (by omega)] at hu
      simpa using hu
    refine ⟨g, cap, e, hg, (Array.getElem?_eq_some_iff.1 hb).1, fun i x hx => ?_, fun i x hx => ?_⟩
    · have hi : i < l.length := (List.getElem?_eq_some_iff.1 hx).1
      exact key _ _ (by omega) (encPs_at l i x hx).1
    · have hi : i < l.length := (List.getElem?_eq_some_iff.1 hx).1
      exact key _ _ (by omega) (encPs_at l i x hx).2
theorem Tryz.infoint : (Tryz.prog.info? 3).map (fun i => (i.zero, i.size, i.bytes)) = some (some (.int .i64 0), 1, 8) := by kernel_rfl
end Go.Proofs.YthiijcappjaagaaGreatDoor
namespace Go.Proofs.YthiijcappjaagaaGreatDoor
open Go.RowKit Go.Shelf Sx
section
variable {P : Program} {ops : Array Oper} {Q : Exit → Act → World → Prop} {md : Region.Mode} {S : World → Prop} {oi : Oper} {v : Value} {fuel : Nat} {listed : Array Bool} {a : Act} {w : World}
theorem tk (i : Nat) (hi : ops[i]? = some oi) (h : wpAnyH P md ops Q S fuel (listed.setIfInBounds i true) (a.put oi.dst v) w)
    (hw : Region.wanted oi (yielded ops a.tmps) = true := by rfl)
    (hv : ∀ w, S w → (execOp a.eval oi).run P w = .ok (.value v) w := by ((intro w hSw; (try dsimp only at hSw); go_simp) <;> with_reducible rfl))
    (hs : Region.noSelect ops = true := by kernel_rfl) (hf : Region.free md ops listed i = true := by kernel_rfl) (hr : (Region.ready md ops listed).contains i = true := by kernel_rfl)
    (hQ : ∀ c a w, Q (.panic c) (a.put oi.dst v) w → Q (.panic c) a w := by exact fun _ _ _ h => h) (hS : S w := by assumption) : wpAnyH P md ops Q S (fuel + 1) listed a w :=
  wpAnyH_take hi hs hf hr hQ (Or.inl ⟨hw, hv⟩) hS h
theorem tu (i : Nat) (hi : ops[i]? = some oi) (h : wpAnyH P md ops Q S fuel (listed.setIfInBounds i true) (a.put oi.dst undef) w)
    (hw : Region.wanted oi (yielded ops a.tmps) = false := by rfl)
    (hs : Region.noSelect ops = true := by kernel_rfl) (hf : Region.free md ops listed i = true := by kernel_rfl) (hr : (Region.ready md ops listed).contains i = true := by kernel_rfl)
    (hQ : ∀ c a w, Q (.panic c) (a.put oi.dst undef) w → Q (.panic c) a w := by exact fun _ _ _ h => h) (hS : S w := by assumption) : wpAnyH P md ops Q S (fuel + 1) listed a w :=
  wpAnyH_take hi hs hf hr hQ (Or.inr ⟨hw, rfl⟩) hS h
end
theorem z1 {α : Type _} {xs : List α} {i : Nat} (h : i < xs.toArray.size) : xs.toArray[i] = xs[i]'h := List.getElem_toArray h
theorem z2 {α : Type _} {a : α} {xs : List α} (h : 0 < (a :: xs).length) : (a :: xs)[0] = a := rfl
theorem z3 {α : Type _} {a : α} {xs : List α} {i : Nat} (h : i + 1 < (a :: xs).length) : (a :: xs)[i + 1] = xs[i]'(Nat.lt_of_succ_lt_succ h) := rfl
theorem z4 {α : Type _} {l : List α} {i : Nat} {a : α} : l.toArray.setIfInBounds i a = (l.set i a).toArray := List.setIfInBounds_toArray ..
theorem z5 {α : Type _} {x a : α} {xs : List α} : List.set (x :: xs) 0 a = a :: xs := rfl
theorem z6 {α : Type _} {x a : α} {xs : List α} {n : Nat} : List.set (x :: xs) (n + 1) a = x :: xs.set n a := rfl
theorem put_to (t : Array Value) (df : List Deferred) (d : Tmp) (v : Value) : Act.put ⟨t, df⟩ (some d) v = ⟨t.setIfInBounds d v, df⟩ := rfl
theorem put_no (a : Act) (v : Value) : a.put none v = a := rfl
theorem zz : (∀ (t : Array Value) (df : List Deferred) (d : Tmp) (v : Value), Act.put ⟨t, df⟩ (some d) v = ⟨t.setIfInBounds d v, df⟩) ∧ (∀ (a : Act) (v : Value), a.put none v = a) ∧
    (∀ {α : Type} {xs : List α} {i : Nat} (h : i < xs.toArray.size), xs.toArray[i] = xs[i]'h) ∧ (∀ {α : Type} {a : α} {xs : List α} (h : 0 < (a :: xs).length), (a :: xs)[0] = a) ∧
    (∀ {α : Type} {a : α} {xs : List α} {i : Nat} (h : i + 1 < (a :: xs).length), (a :: xs)[i + 1] = xs[i]'(Nat.lt_of_succ_lt_succ h)) ∧ (∀ {α : Type} {l : List α} {i : Nat} {a : α}, l.toArray.setIfInBounds i a = (l.set i a).toArray) ∧
    (∀ {α : Type} {x a : α} {xs : List α}, List.set (x :: xs) 0 a = a :: xs) ∧ (∀ {α : Type} {x a : α} {xs : List α} {n : Nat}, List.set (x :: xs) (n + 1) a = x :: xs.set n a) :=
  ⟨put_to, put_no, fun h => z1 h, fun h => z2 h, fun h => z3 h, z4, z5, z6⟩
structure Ev where
  t : Int
  k : Int
  l : Int
  v : Int
  m : Int
def Ev.dec (a b : Ev) : Decidable (a = b) :=
  decidable_of_iff (a.t = b.t ∧ a.k = b.k ∧ a.l = b.l ∧ a.v = b.v ∧ a.m = b.m) ⟨fun h => by obtain ⟨x1, x2, x3, x4, x5⟩ := a; obtain ⟨y1, y2, y3, y4, y5⟩ := b; obtain ⟨h1, h2, h3, h4, h5⟩ := h; dsimp only at h1 h2 h3 h4 h5; subst h1 h2 h3 h4 h5; rfl, fun h => by subst h; exact ⟨rfl, rfl, rfl, rfl, rfl⟩⟩
def Ev.ndec (a b : Ev) : Decidable (a ≠ b) := @instDecidableNot _ (Ev.dec a b)
theorem Ev.ndec_false {a b : Ev} (h : @decide (a ≠ b) (Ev.ndec a b) = false) : a = b := Classical.not_not.1 (@of_decide_eq_false _ (Ev.ndec a b) h)
structure EvsAt (w : World) (s o : Nat) (l : List Ev) : Prop where
  lt : s < w.heap.size
  c0 : ∀ (i : Nat) (e : Ev), l[i]? = some e → w.cell? ⟨s, o + i * 5, none⟩ = some (.int .i64 e.t)
  c1 : ∀ (i : Nat) (e : Ev), l[i]? = some e → w.cell? ⟨s, o + i * 5 + 1, none⟩ = some (.int .i64 e.k)
  c2 : ∀ (i : Nat) (e : Ev), l[i]? = some e → w.cell? ⟨s, o + i * 5 + 2, none⟩ = some (.int .i64 e.l)
  c3 : ∀ (i : Nat) (e : Ev), l[i]? = some e → w.cell? ⟨s, o + i * 5 + 3, none⟩ = some (.int .u64 e.v)
  c4 : ∀ (i : Nat) (e : Ev), l[i]? = some e → w.cell? ⟨s, o + i * 5 + 4, none⟩ = some (.int .i64 e.m)
theorem EvsAt.below {w w' : World} {s o : Nat} {l : List Ev} (h : EvsAt w s o l) (hb : Below w.heap.size w w') : EvsAt w' s o l :=
  ⟨Nat.lt_of_lt_of_le h.lt hb.size, fun i e he => (hb.cell (p := ⟨s, o + i * 5, none⟩) h.lt).trans (h.c0 i e he), fun i e he => (hb.cell (p := ⟨s, o + i * 5 + 1, none⟩) h.lt).trans (h.c1 i e he), fun i e he => (hb.cell (p := ⟨s, o + i * 5 + 2, none⟩) h.lt).trans (h.c2 i e he), fun i e he => (hb.cell (p := ⟨s, o + i * 5 + 3, none⟩) h.lt).trans (h.c3 i e he), fun i e he => (hb.cell (p := ⟨s, o + i * 5 + 4, none⟩) h.lt).trans (h.c4 i e he)⟩
def EvArg (w : World) (v : Value) (l : List Ev) : Prop := ∃ p cap, v = .slice p l.length cap ∧ (0 < l.length → ∃ s o, p = some ⟨s, o, none⟩ ∧ EvsAt w s o l) ∧ l.length * 40 ≤ 140737488355328 ∧ l.length ≤ cap
theorem EvArg.below {w w' : World} {v : Value} {l : List Ev} (h : EvArg w v l) (hb : Below w.heap.size w w') : EvArg w' v l := by
  obtain ⟨p, cap, e, h1, h2⟩ := h
  refine ⟨p, cap, e, fun h0 => ?_, h2⟩
  obtain ⟨s, o, e2, h3⟩ := h1 h0
  exact ⟨s, o, e2, h3.below hb⟩
def CoArg (w : World) (v : Value) (ls : List (List Int)) : Prop := ∃ p cap, v = .slice p ls.length cap ∧ ls.length ≤ 9223372036854775807 ∧ ∃ vs : List Value, vs.length = ls.length ∧
  (0 < ls.length → ∃ s o, p = some ⟨s, o, none⟩ ∧ s < w.heap.size ∧ ∀ (i : Nat) (u : Value), vs[i]? = some u → w.cell? ⟨s, o + i, none⟩ = some u) ∧ ∀ (i : Nat) (u : Value) (l : List Int), vs[i]? = some u → ls[i]? = some l → IntsR w u l ∧ l.length ≤ 9223372036854775807 ∧ ∃ p c, u = .slice p l.length c ∧ l.length ≤ c
theorem CoArg.below {w w' : World} {v : Value} {ls : List (List Int)} (h : CoArg w v ls) (hb : Below w.heap.size w w') : CoArg w' v ls := by
  obtain ⟨p, cap, e, hl, vs, h1, h2, h3⟩ := h
  refine ⟨p, cap, e, hl, vs, h1, fun h0 => ?_, fun i u l hu hl => ⟨(h3 i u l hu hl).1.below hb, (h3 i u l hu hl).2⟩⟩
  obtain ⟨s, o, e2, h4, h5⟩ := h2 h0
  exact ⟨s, o, e2, Nat.lt_of_lt_of_le h4 hb.size, fun i u hu => (hb.cell (p := ⟨s, o + i, none⟩) h4).trans (h5 i u hu)⟩
structure Gr where
  cells : Int
  evs : List Ev
  rf : List (Int × Int)
  co : List (List Int)
  rmw : List (Int × Int)
  addr : List (Int × Int)
  dat : List (Int × Int)
  ctrl : List (Int × Int)
structure GrV where
  ev : Value
  rf : Value
  co : Value
  rmw : Value
  addr : Value
  dat : Value
  ctrl : Value
structure GrR (w : World) (V : GrV) (g : Gr) : Prop where
  ev : EvArg w V.ev g.evs
  rf : PArg w V.rf g.rf
  co : CoArg w V.co g.co
  rmw : PArg w V.rmw g.rmw
  addr : PArg w V.addr g.addr
  dat : PArg w V.dat g.dat
  ctrl : PArg w V.ctrl g.ctrl
theorem GrR.below {w w' : World} {V : GrV} {g : Gr} (h : GrR w V g) (hb : Below w.heap.size w w') : GrR w' V g :=
  ⟨h.ev.below hb, h.rf.below hb, h.co.below hb, h.rmw.below hb, h.addr.below hb, h.dat.below hb, h.ctrl.below hb⟩
def GrV.cs (V : GrV) (g : Gr) (q : Bool) : Array Value := #[.int .i64 g.cells, V.ev, V.rf, V.co, V.rmw, V.addr, V.dat, V.ctrl, .bool q]
def GrV.val (V : GrV) (g : Gr) : Value := .agg #[.int .i64 g.cells, V.ev, V.rf, V.co, V.rmw, V.addr, V.dat, V.ctrl]
structure BkR (w : World) (b : Nat) (V : GrV) (g : Gr) (q : Bool) : Prop where
  blk : Blk w b 66 (V.cs g q)
  gr : GrR w V g
theorem BkR.below {w w' : World} {b : Nat} {V : GrV} {g : Gr} {q : Bool} (h : BkR w b V g q) (hb : Below w.heap.size w w') : BkR w' b V g q := ⟨h.blk.of_below hb, h.gr.below hb⟩
theorem BkR.cells {w : World} {b : Nat} {V : GrV} {g : Gr} {q : Bool} (h : BkR w b V g q) : w.cell? ⟨b, 0, none⟩ = some (.int .i64 g.cells) := h.blk.cell rfl
theorem BkR.evs {w : World} {b : Nat} {V : GrV} {g : Gr} {q : Bool} (h : BkR w b V g q) : w.cell? ⟨b, 1, none⟩ = some V.ev := h.blk.cell rfl
theorem BkR.rfs {w : World} {b : Nat} {V : GrV} {g : Gr} {q : Bool} (h : BkR w b V g q) : w.cell? ⟨b, 2, none⟩ = some V.rf := h.blk.cell rfl
theorem BkR.cos {w : World} {b : Nat} {V : GrV} {g : Gr} {q : Bool} (h : BkR w b V g q) : w.cell? ⟨b, 3, none⟩ = some V.co := h.blk.cell rfl
theorem BkR.rmws {w : World} {b : Nat} {V : GrV} {g : Gr} {q : Bool} (h : BkR w b V g q) : w.cell? ⟨b, 4, none⟩ = some V.rmw := h.blk.cell rfl
theorem BkR.addrs {w : World} {b : Nat} {V : GrV} {g : Gr} {q : Bool} (h : BkR w b V g q) : w.cell? ⟨b, 5, none⟩ = some V.addr := h.blk.cell rfl
theorem BkR.dats {w : World} {b : Nat} {V : GrV} {g : Gr} {q : Bool} (h : BkR w b V g q) : w.cell? ⟨b, 6, none⟩ = some V.dat := h.blk.cell rfl
theorem BkR.ctrls {w : World} {b : Nat} {V : GrV} {g : Gr} {q : Bool} (h : BkR w b V g q) : w.cell? ⟨b, 7, none⟩ = some V.ctrl := h.blk.cell rfl
theorem BkR.wds {w : World} {b : Nat} {V : GrV} {g : Gr} {q : Bool} (h : BkR w b V g q) : w.cell? ⟨b, 8, none⟩ = some (.bool q) := h.blk.cell rfl
structure Frm (w : World) : Prop where
  lt : 1 < w.heap.size
  c : ∀ j, j < 8 → w.cell? ⟨1, j, none⟩ = some (.int .i64 (([0, 0, 38, 71680, 42, 10240, 60, 49152] : List Int).getD j 0))
theorem Frm.below {w w' : World} (h : Frm w) {n : Nat} (hn : 1 < n) (hb : Below n w w') : Frm w' := ⟨Nat.lt_of_lt_of_le h.lt hb.size, fun j hj => (hb.cell (p := ⟨1, j, none⟩) hn).trans (h.c j hj)⟩
theorem Frm.step {w w' : World} (h : Frm w) (hb : Below w.heap.size w w') : Frm w' := h.below h.lt hb
def bad1 (g : Gr) : Bool := decide (g.cells < 0) || decide (4096 < g.cells) || decide ((g.evs.length : Int) < g.cells) || decide (256 < g.evs.length)
set_option maxHeartbeats 1000000 in
theorem gSizes_calls (b : Nat) (V : GrV) (g : Gr) (q : Bool) (w : World) (h : BkR w b V g q) :
    Calls Tryz.prog 32 #[pv b] w fun e w' => e = .returned (.int .i64 (if bad1 g then 0 else -1)) ∧ w' = w := by
  obtain ⟨p, cap, e, _, _⟩ := h.gr.ev
  have c0 := h.cells
  have c1 := h.evs
  rw [e] at c1
  by_cases h1 : g.cells < 0
  · rw [show bad1 g = true from by simp [bad1, h1]]
    go_enter Tryz.func32, Tryz.ntmps32
    go_wp2_with fail
    go_ret
    exact ⟨rfl, rfl⟩
  · by_cases h2 : (4096 : Int) < g.cells
    · rw [show bad1 g = true from by simp [bad1, h2]]
      go_enter Tryz.func32, Tryz.ntmps32
      go_wp2_with fail
      go_ret
      exact ⟨rfl, rfl⟩
    · by_cases h3 : ((g.evs.length : Nat) : Int) < g.cells
      · rw [show bad1 g = true from by simp [bad1, h3]]
        go_enter Tryz.func32, Tryz.ntmps32
        go_wp2_with fail
        go_ret
        exact ⟨rfl, rfl⟩
      · by_cases h4 : (256 : Int) < ((g.evs.length : Nat) : Int)
        · rw [show bad1 g = true from by simp [bad1]; omega]
          go_enter Tryz.func32, Tryz.ntmps32
          go_wp2_with fail
          go_ret
          exact ⟨rfl, rfl⟩
        · rw [show bad1 g = false from by simp [bad1]; omega]
          go_enter Tryz.func32, Tryz.ntmps32
          go_wp2_with fail
          go_ret
          exact ⟨rfl, rfl⟩
end Go.Proofs.YthiijcappjaagaaGreatDoor
namespace Go.Proofs.YthiijcappjaagaaGreatDoor
open Go.RowKit Go.Shelf Sx
def GrB (g : Gr) : Prop := g.rf.length * 16 ≤ 140737488355328 ∧ g.rmw.length * 16 ≤ 140737488355328 ∧ g.addr.length * 16 ≤ 140737488355328 ∧ g.dat.length * 16 ≤ 140737488355328 ∧ g.ctrl.length * 16 ≤ 140737488355328 ∧ g.co.length * 24 ≤ 140737488355328 ∧ ∀ l ∈ g.co, l.length * 8 ≤ 140737488355328
def evCell (e : Ev) : Nat → Option Value
  | 0 => some (.int .i64 e.t)
  | 1 => some (.int .i64 e.k)
  | 2 => some (.int .i64 e.l)
  | 3 => some (.int .u64 e.v)
  | 4 => some (.int .i64 e.m)
  | _ => none
end Go.Proofs.YthiijcappjaagaaGreatDoor
namespace Go.Proofs.YthiijcappjaagaaGreatDoor
open Go.RowKit Go.Shelf Sx
def arrB (l : List Bool) : Array Value := (l.map Value.bool).toArray
theorem arrB_set (l : List Bool) (q : Nat) (b : Bool) : (arrB l).setIfInBounds q (.bool b) = arrB (l.set q b) := by simp [arrB]
theorem Tryz.infobool : (Tryz.prog.info? 4).map (fun i => (i.zero, i.size, i.bytes)) = some (some (.bool false), 1, 1) := by kernel_rfl
end Go.Proofs.YthiijcappjaagaaGreatDoor
