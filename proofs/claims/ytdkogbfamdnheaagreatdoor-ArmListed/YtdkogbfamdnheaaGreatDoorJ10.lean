import Derived.Test.YtdkogbfamdnheaaGreatDoorJ09
namespace Go.Proofs.YtdkogbfamdnheaaGreatDoor
open Go.RowKit Go.Shelf Sx
set_option maxRecDepth 100000
set_option maxHeartbeats 16000000
set_option linter.unusedSimpArgs false
set_option linter.unusedVariables false
attribute [local go_sem] Oper.semAt_some
theorem Qd7 {β : Type} {B : Nat} {I : β → World → Prop} (hs : ∀ s W, I s W → B ≤ W.heap.size)
  (h : ∀ s W W', I s W → Below B W W' → (∀ base e size v k xs, W.ownsRow base e size v k xs → W'.ownsRow base e size v k xs) → I s W') : OwnFrom B I :=
 fun s W W' row hi hg hr => h s W W' hi ((Below.refl B W).grown hg (hs s W hi) (fun k e => (hr k e).1)) fun base e size v k xs ho => by
  refine ho.kept hg ?_
  rcases ho.2 with ⟨rfl, _⟩ | ⟨g, cap, cur, rfl, _, hgb, _⟩
  ·exact .inl rfl
  ·refine .inr fun e' => ?_
   obtain ⟨_, o, ho, hc⟩ := hr g (by simpa [Value.ownBlock] using e'.symm)
   rw [hgb] at ho; cases ho; cases hc
def Qdv (l : List (Nat × Nat)) : List Value := l.flatMap (fun x => [.int .i64 (x.1 : Int), .int .i64 (x.2 : Int)])
theorem Qt3 (l : List (Nat × Nat)) (a b : Nat) : Qdv (l ++ [(a, b)]) = Qdv l ++ [.int .i64 ((a : Nat) : Int), .int .i64 ((b : Nat) : Int)] := by simp [Qdv]
def Qcc (L : List Nat) (k : Nat) : List (Nat × Nat) := (List.range k).flatMap (fun p => (Qad (gr L p)).map (fun q => (p, q)))
def Qia (L : List Nat) : List (Nat × Nat) := Qcc L L.length
theorem Qku (L : List Nat) (k : Nat) : Qcc L (k + 1) = Qcc L k ++ (Qad (gr L k)).map (fun q => (k, q)) := by simp [Qcc, List.range_succ]
theorem Qov (L : List Nat) (k : Nat) : (Qcc L k).length ≤ 256 * k := by
 induction k with
 | zero => simp [Qcc]
 | succ k ih => rw [Qku, List.length_append, List.length_map]; have := Qjc (gr L k); omega
theorem Tryz.infopair : (Tryz.prog.info? 30).map (fun i => (i.zero, i.size, i.bytes)) = some (some (.agg #[.int .i64 0, .int .i64 0]), 2, 16) := by kernel_rfl
theorem Qqj (w : World) (a b : Value) (t : TypeId) : ∀ j u, [a, b][j]? = some u → (w.alloc (.cells #[a, b] t)).cell? ((⟨w.heap.size, 0, none⟩ : Addr).add j) = some u := by
 intro j u hj
 have h := Blk.new w t #[a, b]
 match j, hj with
 | 0, hj => simp at hj; subst hj; exact h.cell (j := 0) rfl
 | 1, hj => simp at hj; subst hj; exact h.cell (j := 1) rfl
 | j + 2, hj => simp at hj
theorem Qhd {n : Nat} {base : Nat} {e : TypeId} {size : Nat} {v : Value} {k : Nat} {xs : List Value} : ∀ {Ds : List Nat} {W : World}, Marks n W Ds → W.ownsRow base e size v k xs → (Qho W Ds).ownsRow base e size v k xs
 | [], _, _, hb => hb
 | D :: Ds, W, h, hb => (show (Qho (W.putObj D (.deferred none)) Ds).ownsRow base e size v k xs from Qhd h.tail (ownsRow_putObj hb _ (h.lies D sW).2 rfl))
theorem Qye (b c : Nat) (L : List Nat) (w : World) (h : IsRel w b c L) (hT : Tab w) :
  CallsIn Fence.wide 6 Tryz.prog 33 #[pv b] w fun e w' => ∃ v, e = .returned v ∧ w'.ownsRow w.heap.size 30 2 v (Qia L).length (Qdv (Qia L)) ∧ Below w.heap.size w w' := by
 have hl := h.len
 have hh := h.hcell
 have hlt1 := h.head.lt
 have hlt2 := h.rows.lt
 refine callsIn_of_wp_marks Tryz.func33 rfl trivial ?_ rfl
 simp only [Tryz.ntmps33, List.size_toArray, List.length_cons, List.length_nil, Nat.reduceAdd, Nat.reduceSub, Array.replicate_succ, Array.replicate_zero, List.push_toArray, List.append_toArray, List.nil_append, List.cons_append]
 gi_wp2_with fail
 clear hh
 obtain ⟨i0, hi, hz0, hz1, hz2⟩ := info_parts Tryz.infopair
 refine wpIn_loop (fun a wr => ∃ (k : Nat) (Ds : List Nat) (u4 u5 u6 u13 u14 u15 u16 u17 u18 u19 u20 u21 u22 u23 u24 u25 u26 : Value), (k ≤ L.length ∧ (∃ v, Boxed wr w.heap.size 24 v ∧ wr.ownsRow w.heap.size 30 2 v (Qcc L k).length (Qdv (Qcc L k))) ∧ Below w.heap.size w wr ∧ Marks w.heap.size wr Ds) ∧ a = { tmps := #[pv b, undef, .slice none 0 0, pv w.heap.size, u4, u5, u6, pv b, pv b, pv b, .slice (some ⟨c, 0, none⟩) L.length L.length, .int .i64 L.length, .int .i64 k, u13, u14, u15, u16, u17, u18, u19, u20, u21, u22, u23, u24, u25, u26, undef], defers := Ds.map Qtk })
  (fun a _ => L.length - (intOf (a.tmps.getD 12 undef)).toNat) ?start ?round
 case start =>
  refine ⟨0, [], _, _, _, _, _, _, _, _, _, _, _, _, _, _, _, _, _, ⟨oW, ⟨.slice none 0 0, Boxed.new w _ _, World.ownsRow_nil _ _ _ _⟩, (Below.refl _ w).alloc nW _, Marks.nil _ _⟩, rfl⟩
 case round =>
  rintro _ wr ⟨k, Ds, u4, u5, u6, u13, u14, u15, u16, u17, u18, u19, u20, u21, u22, u23, u24, u25, u26, ⟨hk, ⟨v, hv, hrow⟩, hB, hD⟩, rfl⟩
  by_cases hlt : k < L.length
  ·have hro := h.below hB
   obtain ⟨hh, ⟨x0, x1, x2, x3⟩, _, q1, q2⟩ := hro.slots (Qbf hlt)
   have HE : Hid (_ = _) := Qku L k
   have hlen := Qov L k
   have hd : decide ((k : Int) < (L.length : Int)) = true := decide_eq_true oW
   gi_wp2_with (refine ⟨trivial, ?_⟩; gi_at_call 72; refine (Qdz Fence.wide _ trivial rfl (gr L k) _).mono ?_; rintro e w' ⟨rfl, rfl⟩)
   clear x0 x1 x2 x3 hh
   have hTr := hT.step hB
   have hs1 := hv.lt
   have hs2 := hB.size
   have hpos := hT.pos
   have hDlt := hD.lt
   refine wpIn_rangeFunc_ownF rfl oW (gf := 114) (lb := #[.pointer (some ⟨wr.heap.size + 1 + 1, 0, none⟩)]) rfl trivial (enters_of Tryz.func114 kW rfl)
    (Qcj (gr L k) (wr.heap.size + 1 + 1) (6 - 1) oW _ ?hB ?hT) belowK_t (belowK_b sW) bW (fun _ => rfl)
    (fun pre W => wr.heap.size + 1 + 1 + 1 ≤ W.heap.size ∧ Blk W wr.heap.size 3 #[.int .i64 k] ∧ (∃ v, Boxed W w.heap.size 24 v ∧ W.ownsRow w.heap.size 30 2 v (Qcc L k ++ (Qbg pre).map (fun q => (k, q))).length (Qdv (Qcc L k ++ (Qbg pre).map (fun q => (k, q))))) ∧ Tab W ∧ Marks w.heap.size W Ds ∧ Below w.heap.size w W)
    (fun _ _ _ => False) ?hI (fun _ => Qdn) ?h0
    (fun x => { tmps := #[pv b, undef, .slice none 0 0, pv w.heap.size, pv wr.heap.size, pv (wr.heap.size + 1), .int .i64 (x.1 : Int), pv b, pv b, pv b, .slice (some ⟨c, 0, none⟩) L.length L.length, .int .i64 L.length, .int .i64 k, .bool true, .int .i64 k, .pointer (some ⟨c, k * 4, none⟩), rv (gr L k), rv (gr L k), .func (.func 114) #[] #[.pointer (some ⟨wr.heap.size + 1 + 1, 0, none⟩)], .int .i64 (x.1 : Int), u20, u21, u22, u23, u24, u25, u26, undef], defers := [] }) ?assign ?body ?done ?stop
   case hB => exact Blk.new3 _ _ _ _ _
   case hT => exact ((hTr.alloc _).alloc _).alloc _
   case hI =>
    refine Qd7 (fun s W hi => by simpa using hi.1) ?_
    rintro s W W' ⟨h1, h2, ⟨v, h3, h4⟩, h5, h6, h7⟩ hb' ho
    have hb' : Below (wr.heap.size + 1 + 1 + 1) W W' := by simpa using hb'
    exact ⟨Nat.le_trans h1 hb'.size, h2.below hb' oW, ⟨v, (hb'.block _ oW).trans h3, ho _ _ _ _ _ _ h4⟩, h5.below hb' oW, h6.below hb' (fun D hD => by have := hDlt D hD; omega), h7.trans (hb'.mono oW)⟩
   case h0 =>
    refine ⟨by simp, ((Blk.new wr _ _).alloc _).alloc _, ⟨v, ((hv.alloc _).alloc _).alloc _, ?_⟩, ((hTr.alloc _).alloc _).alloc _, hD.keeps (((KeepsOthers.alloc _ _).trans (KeepsOthers.alloc _ _)).trans (KeepsOthers.alloc _ _)), ((hB.alloc hs2 _).alloc (by simp; omega) _).alloc (by simp; omega) _⟩
    rw [show Qbg (R := gr L k) [] = [] from rfl, List.map_nil, List.append_nil]
    exact ((hrow.alloc _).alloc _).alloc _
   case assign =>
    intro l x W K hK
    gi_wp2
    exact hK
   case body =>
    rintro l pre x W ⟨h1, h2, ⟨v, h3, h4⟩, h5, h6, h7⟩ hplen
    have k0 : W.cell? ⟨w.heap.size, 0, none⟩ = some v := h3.cell
    have k1 : W.cell? ⟨wr.heap.size, 0, none⟩ = some (.int .i64 k) := h2.cell rfl
    have hn1 : (Qcc L k ++ (Qbg pre).map (fun q => (k, q))).length ≤ 256 * k + 256 := by simp [Qbg]; omega
    have HS : Hid (Qdv (Qcc L k ++ (Qbg (pre ++ [x])).map (fun q => (k, q))) = Qdv (Qcc L k ++ (Qbg pre).map (fun q => (k, q))) ++ [.int .i64 ((k : Nat) : Int), .int .i64 (x.1 : Int)] ∧ (Qcc L k ++ (Qbg (pre ++ [x])).map (fun q => (k, q))).length = (Qcc L k ++ (Qbg pre).map (fun q => (k, q))).length + 1) := by
     rw [Qdy, List.map_append, ← List.append_assoc]
     exact ⟨Qt3 _ _ _, by simp; omega⟩
    generalize Qcc L k ++ (Qbg pre).map (fun q => (k, q)) = lst at *
    clear HE hlen hrow
    gi_wp2_with (gi_at_builtin; refine wpListIn_append_own _ rfl _ _ 24 rfl w.heap.size 30 i0 (.agg #[.int .i64 0, .int .i64 0]) 2 16 Tryz.underlying24 hi hz0 hz1 hz2 rfl dW _ _ _ rfl (h4.alloc _) ⟨W.heap.size, 0, none⟩ 1 1 [.int .i64 ((k : Nat) : Int), .int .i64 (x.1 : Int)] rfl rfl (Qqj _ _ _ _) (by simp [Value.oneCell']) (by unfold maxLen; omega) oW (by have := h7.size; simp; omega) ?_; intro v' w2 hown' hgrow _; obtain ⟨g', cap', rfl⟩ := ownsRow_succ hown'; obtain ⟨hv1, hv2, hr2, hk2, hb2⟩ := h3.appended dW h4 h7.size nW hown' hgrow; have hc1 := hv1.cell; have hf1 := hv1.frozen)
    refine ⟨hk2, hb2.mono oW, Nat.le_trans h1 hk2.size, ?_, ⟨_, hv2, ?_⟩, h5.below hb2 oW, h6.keeps hk2, h7.trans hb2⟩
    ·have h2b : Boxed W wr.heap.size 3 (.int .i64 k) := h2
     have := ((h2b.alloc (.cells #[.int .i64 (k : Int), .int .i64 (x.1 : Int)] 30)).kept hgrow (h2b.not_row dW h4))
     exact (show Blk w2 wr.heap.size 3 #[.int .i64 k] from this).setOther (by simp; omega) _
    ·rw [HS.out.1, HS.out.2]; exact hr2
   case done =>
    rintro D ys W hDD hys ⟨h1, h2, ⟨v, h3, h4⟩, h5, h6, h7⟩ hK
    rw [hys, ← HE.out] at h4
    gi_wp2
    have hm2 : Marks w.heap.size W (D :: Ds) := h6.cons hK (by simp at hDD; omega) (fun E hE => by have := hDlt E hE; simp at hDD; omega)
    refine ⟨?_, ?_⟩
    ·refine ⟨k + 1, D :: Ds, ?_⟩
     repeat apply Exists.intro
     exact ⟨⟨oW, ⟨v, h3, h4⟩, h7, hm2⟩, rfl⟩
    ·simp [intOf]; omega
   case stop =>
    rintro D c pre W _ _ h _
    exact h.elim
  ·obtain rfl : k = L.length := by omega
   have k0 : wr.cell? ⟨w.heap.size, 0, none⟩ = some v := hv.cell
   gi_wp2
   exact Qds hD ⟨_, results_tmp rfl _ _ _, v, rfl, Qhd hD hrow, hB.trans (Qe5 hD)⟩
theorem Qri (b c : Nat) (L : List Nat) (w : World) (h : IsRel w b c L) (hT : Tab w) :
  Calls Tryz.prog 33 #[pv b] w fun e w' => ∃ v, e = .returned v ∧ w'.ownsRow w.heap.size 30 2 v (Qia L).length (Qdv (Qia L)) ∧ Below w.heap.size w w' := callsIn_wide.1 (Qye b c L w h hT)
end Go.Proofs.YtdkogbfamdnheaaGreatDoor
namespace Go.Proofs.YtdkogbfamdnheaaGreatDoor
open Go.RowKit Go.Shelf Sx
set_option maxRecDepth 100000
set_option maxHeartbeats 16000000
set_option linter.unusedSimpArgs false
set_option linter.unusedVariables false
def IntsR (w : World) (v : Value) (l : List Int) : Prop := (∃ a cap, v = .slice a 0 cap ∧ l = []) ∨ ∃ s o cap, v = .slice (some ⟨s, o, none⟩) l.length cap ∧ s < w.heap.size ∧ ∀ (i : Nat) (x : Int), l[i]? = some x → w.cell? ⟨s, o + i, none⟩ = some (.int .i64 x)
theorem IntsR.below {w w' : World} {v : Value} {l : List Int} (h : IntsR w v l) (hb : Below w.heap.size w w') : IntsR w' v l := by
 rcases h with h | ⟨s, o, cap, h1, h2, h3⟩
 ·exact .inl h
 ·exact .inr ⟨s, o, cap, h1, Nat.lt_of_lt_of_le h2 hb.size, fun i x hx => (hb.cell (p := ⟨s, o + i, none⟩) h2).trans (h3 i x hx)⟩
theorem IntsR.some {w : World} {v : Value} {l : List Int} (h : IntsR w v l) (h0 : 0 < l.length) : ∃ s o cap, v = .slice (some ⟨s, o, none⟩) l.length cap ∧ s < w.heap.size ∧ ∀ (i : Nat) (x : Int), l[i]? = some x → w.cell? ⟨s, o + i, none⟩ = some (.int .i64 x) := by
 rcases h with ⟨_, _, _, e⟩ | h
 ·rw [e] at h0; exact absurd h0 sW
 ·exact h
def Qaf (l : List Int) : List Value := l.map (fun x => .int .i64 x)
theorem Qgg {w : World} {base : Nat} {v : Value} {l : List Int} (h : w.ownsRow base 3 1 v l.length (Qaf l)) : IntsR w v l := by
 rcases h.2 with ⟨e, e2⟩ | ⟨g, cap, cur, e, _, hb, _, _, _, ht⟩
 ·left
  exact ⟨_, _, e, List.eq_nil_of_length_eq_zero e2⟩
 ·right
  refine ⟨g, 0, cap, e, (Array.getElem?_eq_some_iff.1 hb).1, ?_⟩
  intro i x hx
  have hk : Blk w g 3 cur := hb
  rw [Nat.zero_add]
  apply hk.cell
  have hi : i < l.length := (List.getElem?_eq_some_iff.1 hx).1
  have : (Qaf l)[i]? = some (.int .i64 x) := by simp [Qaf, hx]
  rw [← ht, List.getElem?_take_of_lt oW] at this
  simpa using this
structure PrsR (w : World) (s : Nat) (l : List (Nat × Nat)) : Prop where
 lt : s < w.heap.size
 fst : ∀ (i : Nat) (x : Nat × Nat), l[i]? = some x → w.cell? ⟨s, i * 2, none⟩ = some (.int .i64 x.1)
 snd : ∀ (i : Nat) (x : Nat × Nat), l[i]? = some x → w.cell? ⟨s, i * 2 + 1, none⟩ = some (.int .i64 x.2)
theorem Qlq : ∀ (l : List (Nat × Nat)) (i : Nat) (x : Nat × Nat), l[i]? = some x → (Qdv l)[i * 2]? = some (.int .i64 x.1) ∧ (Qdv l)[i * 2 + 1]? = some (.int .i64 x.2)
 | [], _, _, h => by simp at h
 | y :: l, 0, x, h => by simp at h; subst h; exact ⟨rfl, rfl⟩
 | y :: l, i + 1, x, h => by
  have := Qlq l i x (by simpa using h)
  rw [show (i + 1) * 2 = i * 2 + 1 + 1 by omega]
  exact this
theorem Qyf {w : World} {base : Nat} {v : Value} {l : List (Nat × Nat)} (h : w.ownsRow base 30 2 v l.length (Qdv l)) :
  (v = .slice none 0 0 ∧ l = []) ∨ ∃ s cap, v = .slice (some ⟨s, 0, none⟩) l.length cap ∧ base ≤ s ∧ PrsR w s l := by
 rcases h.2 with ⟨e, e2⟩ | ⟨g, cap, cur, e, hg, hb, _, _, _, ht⟩
 ·exact .inl ⟨e, List.eq_nil_of_length_eq_zero e2⟩
 ·right
  have hk : Blk w g 30 cur := hb
  have key : ∀ (j : Nat) (u : Value), j < l.length * 2 → (Qdv l)[j]? = some u → w.cell? ⟨g, j, none⟩ = some u := fun j u hj hu => by
   apply hk.cell
   rw [← ht, List.getElem?_take_of_lt oW] at hu
   simpa using hu
  refine ⟨g, cap, e, hg, (Array.getElem?_eq_some_iff.1 hb).1, fun i x hx => ?_, fun i x hx => ?_⟩
  ·have hi : i < l.length := (List.getElem?_eq_some_iff.1 hx).1
   exact key _ _ oW (Qlq l i x hx).1
  ·have hi : i < l.length := (List.getElem?_eq_some_iff.1 hx).1
   exact key _ _ oW (Qlq l i x hx).2
theorem Tryz.infoint : (Tryz.prog.info? 3).map (fun i => (i.zero, i.size, i.bytes)) = some (some (.int .i64 0), 1, 8) := by kernel_rfl
def Qax (l : List Bool) : Array Value := (l.map Value.bool).toArray
theorem Qlr (l : List Bool) (q : Nat) (b : Bool) : (Qax l).setIfInBounds q (.bool b) = Qax (l.set q b) := by simp [Qax]
theorem Tryz.infobool : (Tryz.prog.info? 4).map (fun i => (i.zero, i.size, i.bytes)) = some (some (.bool false), 1, 1) := by kernel_rfl
theorem Qt4 (n : Nat) (h : n ≤ 256) (w : World) : (Instr.makeSlice 65 (.int .i64 n) (.int .i64 n)).run Tryz.prog w = .ok (.slice (some ⟨w.heap.size, 0, none⟩) n n) (w.alloc (.cells (Qax (List.replicate n false)) 4)) := by
 obtain ⟨i, hx, hz, hs, hb⟩ := info_parts Tryz.infobool
 have := run_make (P := Tryz.prog) w 65 4 i _ Tryz.underlying65 hx hz .i64 .i64 n n oW oW (by rw [hb]; omega) oW
 rw [this, hs]
 have e : madeCells (Value.bool false).cells ((n : Int).toNat * 1) = Qax (List.replicate n false) := by
  apply Array.toList_inj.1
  rw [Int.toNat_natCast, Nat.mul_one, show (Value.bool false).cells = #[.bool false] from rfl, toList_madeCells_one]
  simp [Qax]
 rw [e]
 rfl
end Go.Proofs.YtdkogbfamdnheaaGreatDoor
