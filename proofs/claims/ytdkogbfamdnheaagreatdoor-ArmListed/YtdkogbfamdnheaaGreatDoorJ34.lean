import Derived.Test.YtdkogbfamdnheaaGreatDoorJ26
import Derived.Test.YtdkogbfamdnheaaGreatDoorJ22
import Derived.Laws.AppendOwnNone
namespace Go.Proofs.YtdkogbfamdnheaaGreatDoor
open Go.RowKit Go.Shelf Sx
set_option maxRecDepth 100000
set_option maxHeartbeats 16000000
set_option linter.unusedSimpArgs false
set_option linter.unusedVariables false
theorem Qj6 {W W' : World} {base : Nat} {e : TypeId} {size : Nat} {v : Value} {n : Nat} {xs : List Value} (h : W.ownsRow base e size v n xs) (hk : ∀ g, v.ownBlock = some g → W'.heap[g]? = W.heap[g]?) : W'.ownsRow base e size v n xs := by
 refine ⟨h.1, ?_⟩
 rcases h.2 with h2 | ⟨g, cap, cur, rfl, hb, hg, rest⟩
 ·exact .inl h2
 ·exact .inr ⟨g, cap, cur, rfl, hb, (hk g rfl).trans hg, rest⟩
theorem Qjh {W : World} {base : Nat} {e : TypeId} {size : Nat} {v : Value} {n : Nat} {xs : List Value} (h : W.ownsRow base e size v n xs) {g : Nat} (hg : v.ownBlock = some g) : ∃ cur, Blk W g e cur := by
 rcases h.2 with ⟨rfl, _⟩ | ⟨g', cap, cur, rfl, hb, hg', _⟩
 ·cases hg
 ·simp [Value.ownBlock] at hg
  subst hg
  exact ⟨cur, hg'⟩
theorem Qs5 {W : World} {base : Nat} {e t : TypeId} {size : Nat} {v : Value} {n : Nat} {xs : List Value} {b : Nat} {cs : Array Value} (h : W.ownsRow base e size v n xs) (hb : Blk W b t cs) (ht : e ≠ t) {g : Nat} (hg : v.ownBlock = some g) : g ≠ b := by
 obtain ⟨cur, hc⟩ := Qjh h hg
 exact Qav hc hb ht
theorem Qo8 {W W' : World} {base : Nat} {e t : TypeId} {size : Nat} {v : Value} {n : Nat} {xs : List Value} {b : Nat} {cs : Array Value} (h : W.ownsRow base e size v n xs) (hb : Blk W b t cs) (ht : e ≠ t) (hg : W.grownBy W' (some b)) : W'.ownsRow base e size v n xs :=
 Qj6 h fun g hv => by
  obtain ⟨cur, hc⟩ := Qjh h hv
  exact hg.block g hc.lt (by intro e; cases e; exact Qs5 h hb ht hv rfl)
theorem Qlz {W : World} {base : Nat} {e t : TypeId} {size : Nat} {v : Value} {n : Nat} {xs : List Value} {b j : Nat} {cs : Array Value} (h : W.ownsRow base e size v n xs) (hb : Blk W b t cs) (ht : e ≠ t) (u : Value) : (W.setCell ⟨b, j, none⟩ u).ownsRow base e size v n xs :=
 Qj6 h fun g hv => by
  obtain ⟨cur, hc⟩ := Qjh h hv
  exact (hc.setOther (a := ⟨b, j, none⟩) (Qs5 h hb ht hv) u).trans hc.symm
theorem Qh1 {W : World} {base : Nat} {e t : TypeId} {size : Nat} {v : Value} {n : Nat} {xs : List Value} {b : Nat} {cs : Array Value} (h : W.ownsRow base e size v n xs) (hb : Blk W b t cs) (ht : e ≠ t) (ds : Array Value) : (W.setRow b ds).ownsRow base e size v n xs :=
 Qj6 h fun g hv => setRow_other W b g ds (Qs5 h hb ht hv)
def IntsZ (w : World) (v : Value) (l : List Int) : Prop := (v = .slice none 0 0 ∧ l = []) ∨ ∃ s o cap, v = .slice (some ⟨s, o, none⟩) l.length cap ∧ s < w.heap.size ∧ ∀ (i : Nat) (x : Int), l[i]? = some x → w.cell? ⟨s, o + i, none⟩ = some (.int .i64 x)
theorem IntsZ.below {w w' : World} {v : Value} {l : List Int} (h : IntsZ w v l) (hb : Below w.heap.size w w') : IntsZ w' v l := by
 rcases h with h | ⟨s, o, cap, h1, h2, h3⟩
 ·exact .inl h
 ·exact .inr ⟨s, o, cap, h1, Nat.lt_of_lt_of_le h2 hb.size, fun i x hx => (hb.cell (p := ⟨s, o + i, none⟩) h2).trans (h3 i x hx)⟩
theorem IntsZ.blk {w : World} {b cap : Nat} {l : List Int} (h : Blk w b 3 (Qaf l).toArray) : IntsZ w (.slice (some ⟨b, 0, none⟩) l.length cap) l :=
 .inr ⟨b, 0, cap, rfl, h.lt, fun i x hx => h.cell (by simp [Qaf, hx])⟩
theorem Qgz {w : World} {ops : Array Oper} {rest : List Oper} {o : Oper} {a : Act} {Q : Exit → Act → World → Prop} (hgd : o.guard = none) (s x : Operand)
  (ho : o.op = .call { callee := .builtin .append, args := #[s, x], argTypes := #[36, 36] }) (base : Nat) (v : Value) (hs : a.eval s = v) (l : List Int) (hown : w.ownsRow base 3 1 v l.length (Qaf l)) (u : Value) (hx : a.eval x = u) (m : List Int) (hP : IntsZ w u m) (lm : List Int) (hlm : l ++ m = lm) (hl : l.length + m.length ≤ 100000) (hb : base ≤ w.heap.size)
  (h : ∀ p' c' w', w'.ownsRow base 3 1 (.slice p' lm.length c') lm.length (Qaf lm) → w.grownBy w' v.ownBlock → wpList Tryz.prog ops Q rest (a.put o.dst (.slice p' lm.length c')) w') : wpList Tryz.prog ops Q (o :: rest) a w := by
 obtain ⟨i0, hi, hz0, hz1, hz2⟩ := info_parts Tryz.infoint
 rcases hP with ⟨rfl, rfl⟩ | ⟨s0, o0, cap, rfl, h1, h2⟩
 ·refine wpList_append_own_none hgd s x 36 ho base 3 i0 1 Tryz.underlying36 hi v l.length (Qaf l) hs hown hx ?_
  rw [List.append_nil] at hlm
  subst hlm
  obtain ⟨p', c', rfl⟩ := Qag hown
  exact h p' c' w hown (Qgb w _)
 ·refine wpList_append_own w hgd s x 36 ho base 3 i0 (.int .i64 0) 1 8 Tryz.underlying36 hi hz0 hz1 hz2 rfl dW v l.length (Qaf l) hs hown ⟨s0, o0, none⟩ m.length cap (Qaf m) hx (by simp [Qaf]) ?_ (by simp [Qaf, Value.oneCell']) (by unfold maxLen; omega) oW hb ?_
  ·intro j u hj
   rw [Qaf, List.getElem?_map] at hj
   obtain ⟨y, hy, rfl⟩ := Option.map_eq_some_iff.1 hj
   rw [Addr.add_lit]; exact h2 j y hy
  ·intro v' w' hown' hg _
   obtain ⟨p', c', rfl⟩ := Qag hown'
   subst hlm
   have e := h p' c' w'
   rw [List.length_append, show Qaf (l ++ m) = Qaf l ++ Qaf m by simp [Qaf]] at e
   exact e hown' hg
theorem Qji {w : World} {ops : Array Oper} {rest : List Oper} {o : Oper} {a : Act} {Q : Exit → Act → World → Prop} (hgd : o.guard = none) (s x : Operand)
  (ho : o.op = .call { callee := .builtin .append, args := #[s, x], argTypes := #[23, 23] }) (base : Nat) (v : Value) (hs : a.eval s = v) (l : List Ev) (hown : w.ownsRow base 34 5 v l.length (Qay l)) (u : Value) (hx : a.eval x = u) (m : List Ev) (hP : EvArg w u m) (lm : List Ev) (hlm : l ++ m = lm) (h0 : 0 < m.length) (hl : l.length + m.length ≤ 100000) (hb : base ≤ w.heap.size)
  (h : ∀ p' c' w', w'.ownsRow base 34 5 (.slice p' lm.length c') lm.length (Qay lm) → w.grownBy w' v.ownBlock → wpList Tryz.prog ops Q rest (a.put o.dst (.slice p' lm.length c')) w') : wpList Tryz.prog ops Q (o :: rest) a w := by
 obtain ⟨i0, hi, hz0, hz1, hz2⟩ := info_parts Tryz.infoev
 obtain ⟨p, cap, rfl, hp, _, _⟩ := hP
 obtain ⟨s0, o0, rfl, h2⟩ := hp h0
 refine wpList_append_own w hgd s x 23 ho base 34 i0 (.agg #[.int .i64 0, .int .i64 0, .int .i64 0, .int .u64 0, .int .i64 0]) 5 40 Tryz.underlying23 hi hz0 hz1 hz2 rfl dW v l.length (Qay l) hs hown ⟨s0, o0, none⟩ m.length cap (Qay m) hx (Qcm m) ?_ ?_ (by unfold maxLen; omega) oW hb ?_
 ·intro j u hj
  obtain ⟨i, e, k, he, _, rfl, hk⟩ := Qg8 m j u hj
  rw [Addr.add_lit]
  exact h2.at he hk
 ·intro u hu
  obtain ⟨j, hj⟩ := List.getElem?_of_mem hu
  obtain ⟨i, e, k, _, _, _, hk⟩ := Qg8 m j u hj
  exact Qma hk
 ·intro v' w' hown' hg _
  obtain ⟨p', c', rfl⟩ := Qag hown'
  subst hlm
  have e := h p' c' w'
  rw [List.length_append, show Qay (l ++ m) = Qay l ++ Qay m by simp [Qay]] at e
  exact e hown' hg
theorem Qbr (t k l v m : Int) (w : World) : Calls Tryz.prog 12 #[.int .i64 t, .int .i64 k, .int .i64 l, .int .u64 v, .int .i64 m] w fun r w' => r = .returned (.agg #[.int .i64 t, .int .i64 k, .int .i64 l, .int .u64 v, .int .i64 m]) ∧ Below w.heap.size w w' := by
 go_enter Tryz.func12, Tryz.ntmps12
 go_wp2_with fail
 refine bodyPost_ret (results_cell_row rfl _ _ w.heap.size 34 _ (0, 0) _ rfl (Blk.new w 34 _) Tryz.underlying34 rfl kW) rfl ?_
 exact ⟨rfl, bW.alloc nW _⟩
theorem Qec {W W' : World} {b : Nat} {t : TypeId} {cs : Array Value} {row : Option Nat} (h : Blk W b t cs) (hg : W.grownBy W' row) (hne : some b ≠ row) : Blk W' b t cs := (hg.block b h.lt hne).trans h
theorem Qhj {w W W' : World} {s : Nat} (h : Below w.heap.size w W) (hg : W.grownBy W' (some s)) (hs : w.heap.size ≤ s) : Below w.heap.size w W' :=
 ⟨hg.os.trans h.os, hg.tape.trans h.tape, hg.output.trans h.output, Nat.le_trans h.size hg.size, fun k hk => (hg.block k (Nat.lt_of_lt_of_le hk h.size) (by intro e; cases e; omega)).trans (h.block k hk)⟩
def gZ : Array Value := #[.int .i64 0, .slice none 0 0, .slice none 0 0, .slice none 0 0, .slice none 0 0, .slice none 0 0, .slice none 0 0, .slice none 0 0]
def evI : Array Value := #[.int .i64 (-1), .int .i64 2, .int .i64 0, .int .u64 0, .int .i64 11, .int .i64 (-1), .int .i64 2, .int .i64 1, .int .u64 0, .int .i64 11]
def iniE : List Ev := [⟨-1, 2, 0, 0, 11⟩, ⟨-1, 2, 1, 0, 11⟩]
theorem Qdd (w : World) : PArg w (.slice none 0 0) [] := .inl ⟨_, _, rfl, rfl⟩
theorem Qux {W : World} {base k : Nat} {u v : Value} {a b : List Int} (hk : Blk W k 36 #[u, v]) (ha : W.ownsRow base 3 1 u a.length (Qaf a)) (hb : W.ownsRow base 3 1 v b.length (Qaf b)) (la : a.length ≤ 100000) (lb : b.length ≤ 100000) : CoArg W (.slice (some ⟨k, 0, none⟩) 2 2) [a, b] := by
 have fit : ∀ {x : Value} {l : List Int}, W.ownsRow base 3 1 x l.length (Qaf l) → ∃ p c, x = .slice p l.length c ∧ l.length ≤ c := fun h => by
  rcases h.2 with ⟨rfl, e⟩ | ⟨g, cap, cur, rfl, _, _, hc, _⟩
  ·exact ⟨none, 0, by rw [e], oW⟩
  ·exact ⟨_, _, rfl, hc⟩
 refine ⟨_, _, rfl, by simp, [u, v], rfl, fun _ => ⟨k, 0, rfl, hk.lt, fun i x hx => ?_⟩, fun i x l hx hl => ?_⟩
 ·match i, hx with
  | 0, hx => simp at hx; subst hx; exact hk.cell rfl
  | 1, hx => simp at hx; subst hx; exact hk.cell rfl
  | n + 2, hx => simp at hx
 ·match i, hx, hl with
  | 0, hx, hl => simp at hx hl; subst hx hl; exact ⟨Qgg ha, oW, fit ha⟩
  | 1, hx, hl => simp at hx hl; subst hx hl; exact ⟨Qgg hb, oW, fit hb⟩
  | n + 2, hx, _ => simp at hx
structure TwoR (w : World) (V : GrV) (vr : Value) (g : Gr) : Prop where
 gr : GrR w V g
 form : ∃ p n c k q, V = ⟨.slice p n c, vr, .slice k 2 q, .slice none 0 0, .slice none 0 0, .slice none 0 0, .slice none 0 0⟩
 st : ∀ (b : Nat) (cs ds : Array Value), Blk w b 27 cs → EvArg (w.setRow b ds) V.ev g.evs ∧ CoArg (w.setRow b ds) V.co g.co
theorem Qo9 (ve vr vx vy : Value) (evs : List Ev) (rf : List (Int × Int)) (x y : List Int) (w : World) (hE : EvArg w ve evs) (hR : PArg w vr rf) (hX : IntsZ w vx x) (hY : IntsZ w vy y) (h0 : 0 < evs.length) (hl : evs.length ≤ 1000) (hx : x.length ≤ 1000) (hy : y.length ≤ 1000) :
  Calls Tryz.prog 11 #[ve, vr, vx, vy] w fun r w' => ∃ V, r = .returned (GrV.val V (Qni evs rf x y)) ∧ TwoR w' V vr (Qni evs rf x y) ∧ Below w.heap.size w w' := by
 have HE := Qa hE
 have HR := Qa hR
 have HX := Qa hX
 have HY := Qa hY
 obtain ⟨pr, cr, rfl, _, _⟩ := Qae hR
 clear hE hR hX hY
 obtain ⟨EV, hEV⟩ : ∃ EV, iniE ++ evs = EV := ⟨_, rfl⟩
 have EVQ := Qa hEV
 clear hEV
 go_enter Tryz.func11, Tryz.ntmps11
 go_wp2_with fail
 refine (Qbr (-1) 2 0 0 11 _).mono ?_
 rintro e w1 ⟨rfl, hB1⟩
 go_wp2_with fail
 refine (Qbr (-1) 2 1 0 11 _).mono ?_
 rintro e w2 ⟨rfl, hB2⟩
 have hz2 : Blk w2 w.heap.size 27 gZ := ((Blk.new w 27 gZ).of_below hB1).of_below hB2
 have hA : Below w.heap.size w (w.alloc (.cells gZ 27)) := bW.alloc nW _
 have hA1 : Below w.heap.size w w1 := Qaa hA hA.size hB1
 have hA2 : Below w.heap.size w w2 := Qaa hA1 hA1.size hB2
 clear hB1 hB2 hA hA1
 have hne : w.heap.size ≠ w2.heap.size + 1 := by have := hz2.lt; omega
 have hs3 := (Blk.new w2 34 evI).alloc (.cells #[.int .i64 2, .slice (some ⟨w2.heap.size, 0, none⟩) 2 2, .slice pr rf.length cr, .slice none 0 0, .slice none 0 0, .slice none 0 0, .slice none 0 0, .slice none 0 0] 27)
 have hg3 := Blk.new2 w2 (.cells evI 34) 27 #[.int .i64 2, .slice (some ⟨w2.heap.size, 0, none⟩) 2 2, .slice pr rf.length cr, .slice none 0 0, .slice none 0 0, .slice none 0 0, .slice none 0 0, .slice none 0 0]
 have hz3 := (hz2.alloc (.cells evI 34)).alloc (.cells #[.int .i64 2, .slice (some ⟨w2.heap.size, 0, none⟩) 2 2, .slice pr rf.length cr, .slice none 0 0, .slice none 0 0, .slice none 0 0, .slice none 0 0, .slice none 0 0] 27)
 have hA3 : Below w.heap.size w ((w2.alloc (.cells evI 34)).alloc (.cells #[.int .i64 2, .slice (some ⟨w2.heap.size, 0, none⟩) 2 2, .slice pr rf.length cr, .slice none 0 0, .slice none 0 0, .slice none 0 0, .slice none 0 0, .slice none 0 0] 27)) := (hA2.alloc hA2.size _).alloc (by simp; have := hA2.size; omega) _
 have hsl : w.heap.size ≤ w2.heap.size := hA2.size
 go_upto_region 2 with fail
 unfold evI at hs3 hg3 hz3 hA3
 generalize (w2.alloc (.cells #[.int .i64 (-1), .int .i64 2, .int .i64 0, .int .u64 0, .int .i64 11, .int .i64 (-1), .int .i64 2, .int .i64 1, .int .u64 0, .int .i64 11] 34)).alloc (.cells #[.int .i64 2, .slice (some ⟨w2.heap.size, 0, none⟩) 2 2, .slice pr rf.length cr, .slice none 0 0, .slice none 0 0, .slice none 0 0, .slice none 0 0, .slice none 0 0] 27) = W3 at *
 clear hz2 hA2
 have hgl : w.heap.size ≤ w2.heap.size + 1 := by omega
 generalize w2.heap.size + 1 = gb at *
 generalize w2.heap.size = s at *
 have own3 : W3.ownsRow w.heap.size 34 5 (.slice (some ⟨s, 0, none⟩) 2 2) iniE.length (Qay iniE) := ⟨rfl, .inr ⟨s, 2, _, rfl, hsl, hs3, Nat.le_refl _, by decide, rfl, rfl⟩⟩
 have hgs : gb ≠ s := Qav hg3 hs3 dW
 have hzs : w.heap.size ≠ s := Qav hz3 hs3 dW
 have HE3 := Qa (HE.out.below hA3)
 have k1 := hg3.cell (j := 1) rfl
 go_upto_region 3 with (first | (refine Qji rfl _ _ rfl w.heap.size _ rfl iniE own3 _ rfl evs HE3.out EV EVQ.out h0 (by simp [iniE]; omega) hA3.size (fun p4 c4 W4 own4 hw4 => ?_); have hg4 := Qec hg3 hw4 (fun e => hgs (Option.some.inj e)); have hz4 := Qec hz3 hw4 (fun e => hzs (Option.some.inj e)); have hA4 := Qhj (s := s) hA3 hw4 hsl; have k4 := hg4.cell (j := 1) rfl; have f4 := hg4.frozen 1))
 have own5 := Qlz (j := 1) own4 hg4 dW (.slice p4 EV.length c4)
 have hg5 : Blk (W4.setCell ⟨gb, 1, none⟩ (.slice p4 EV.length c4)) gb 27 #[.int .i64 2, .slice p4 EV.length c4, .slice pr rf.length cr, .slice none 0 0, .slice none 0 0, .slice none 0 0, .slice none 0 0, .slice none 0 0] := hg4.set 1 _
 have hz5 := hz4.setOther (a := ⟨gb, 1, none⟩) hne (.slice p4 EV.length c4)
 have hA5 : Below w.heap.size w (W4.setCell ⟨gb, 1, none⟩ (.slice p4 EV.length c4)) := hA4.setCell hgl _
 clear k1 k4 f4 hg4 hz4 hA4 own4 hw4 own3 hg3 hz3 hA3 hs3 HE3 HE
 generalize W4.setCell ⟨gb, 1, none⟩ (.slice p4 EV.length c4) = W5 at *
 have ha6 := Blk.new W5 3 #[.int .i64 0]
 have hBz6 : Below W5.heap.size W5 (W5.alloc (.cells #[.int .i64 0] 3)) := bW.alloc nW _
 have hg6 := hg5.of_below hBz6
 have hz6 := hz5.of_below hBz6
 have own6 := Qac own5 hBz6
 have hA6 := Qaa hA5 hA5.size hBz6
 have hs6 : w.heap.size ≤ W5.heap.size := hA5.size
 clear hBz6 own5 hg5 hz5 hA5
 go_upto_region 4 with fail
 generalize W5.alloc (.cells #[.int .i64 0] 3) = W6 at *
 generalize W5.heap.size = s6 at *
 have ownA6 := Qy8 (base := w.heap.size) ha6 hs6
 have HX6 := Qa (HX.out.below hA6)
 obtain ⟨XA, hXA⟩ : ∃ XA, [0] ++ x = XA := ⟨_, rfl⟩
 have XAQ := Qa hXA
 clear hXA
 have hg6s : gb ≠ s6 := Qav hg6 ha6 dW
 have hz6s : w.heap.size ≠ s6 := Qav hz6 ha6 dW
 go_upto_region 5 with (first | (refine Qgz rfl _ _ rfl w.heap.size _ rfl [0] ownA6 _ rfl x HX6.out XA XAQ.out (by simp; omega) hA6.size (fun p7 c7 W7 ownA7 hw7 => ?_); have hg7 := Qec hg6 hw7 (fun e => hg6s (Option.some.inj e)); have hz7 := Qec hz6 hw7 (fun e => hz6s (Option.some.inj e)); have hA7 := Qhj (s := s6) hA6 hw7 hs6; have own7 := Qo8 own6 ha6 dW hw7))
 clear hg6 hz6 hA6 own6 hw7 ha6 ownA6 HX6 HX
 have hb8 := Blk.new W7 3 #[.int .i64 1]
 have hBz8 : Below W7.heap.size W7 (W7.alloc (.cells #[.int .i64 1] 3)) := bW.alloc nW _
 have hg8 := hg7.of_below hBz8
 have hz8 := hz7.of_below hBz8
 have own8 := Qac own7 hBz8
 have ownA8 := Qac ownA7 hBz8
 have hA8 := Qaa hA7 hA7.size hBz8
 have hs8 : w.heap.size ≤ W7.heap.size := hA7.size
 have hAs : ∀ g, (Value.slice p7 XA.length c7).ownBlock = some g → g ≠ W7.heap.size := fun g hv => by
  obtain ⟨cur, hc⟩ := Qjh ownA7 hv
  have := hc.lt
  omega
 clear hBz8 own7 hg7 hz7 hA7 ownA7
 go_upto_region 6 with fail
 generalize W7.alloc (.cells #[.int .i64 1] 3) = W8 at *
 generalize W7.heap.size = s8 at *
 have ownB8 := Qy8 (base := w.heap.size) hb8 hs8
 have HY8 := Qa (HY.out.below hA8)
 obtain ⟨YB, hYB⟩ : ∃ YB, [1] ++ y = YB := ⟨_, rfl⟩
 have YBQ := Qa hYB
 clear hYB
 have hg8s : gb ≠ s8 := Qav hg8 hb8 dW
 have hz8s : w.heap.size ≠ s8 := Qav hz8 hb8 dW
 go_upto_region 7 with (first | (refine Qgz rfl _ _ rfl w.heap.size _ rfl [1] ownB8 _ rfl y HY8.out YB YBQ.out (by simp; omega) hA8.size (fun p9 c9 W9 ownB9 hw9 => ?_); have hg9 := Qec hg8 hw9 (fun e => hg8s (Option.some.inj e)); have hz9 := Qec hz8 hw9 (fun e => hz8s (Option.some.inj e)); have hA9 := Qhj (s := s8) hA8 hw9 hs8; have own9 := Qo8 own8 hb8 dW hw9; have ownA9 := Qj6 (W' := W9) ownA8 (fun g hv => by
  obtain ⟨cur, hc⟩ := Qjh ownA8 hv
  exact hw9.block g hc.lt (fun e => hAs g hv (Option.some.inj e)))))
 clear hg8 hz8 hA8 own8 hw9 hb8 ownA8 ownB8 HY8 HY hAs
 have hk10 := Blk.new W9 36 #[.slice p7 XA.length c7, .slice p9 YB.length c9]
 have hBz10 : Below W9.heap.size W9 (W9.alloc (.cells #[.slice p7 XA.length c7, .slice p9 YB.length c9] 36)) := bW.alloc nW _
 have hg10 := hg9.of_below hBz10
 have hz10 := hz9.of_below hBz10
 have own10 := Qac own9 hBz10
 have ownA10 := Qac ownA9 hBz10
 have ownB10 := Qac ownB9 hBz10
 have hA10 := Qaa hA9 hA9.size hBz10
 clear hBz10 hg9 hz9 own9 ownA9 ownB9 hA9
 have k10 := hg10.cell (j := 3) rfl
 have f10 := hg10.frozen 3
 have hg11 : Blk ((W9.alloc (.cells #[.slice p7 XA.length c7, .slice p9 YB.length c9] 36)).setCell ⟨gb, 3, none⟩ (.slice (some ⟨W9.heap.size, 0, none⟩) 2 2)) gb 27 #[.int .i64 2, .slice p4 EV.length c4, .slice pr rf.length cr, .slice (some ⟨W9.heap.size, 0, none⟩) 2 2, .slice none 0 0, .slice none 0 0, .slice none 0 0, .slice none 0 0] := hg10.set 3 _
 have hz11 := hz10.setOther (a := ⟨gb, 3, none⟩) hne (.slice (some ⟨W9.heap.size, 0, none⟩) 2 2)
 have hk11 := hk10.setOther (a := ⟨gb, 3, none⟩) (Qav hk10 hg10 dW) (.slice (some ⟨W9.heap.size, 0, none⟩) 2 2)
 have own11 := Qlz (j := 3) own10 hg10 dW (.slice (some ⟨W9.heap.size, 0, none⟩) 2 2)
 have ownA11 := Qlz (j := 3) ownA10 hg10 dW (.slice (some ⟨W9.heap.size, 0, none⟩) 2 2)
 have ownB11 := Qlz (j := 3) ownB10 hg10 dW (.slice (some ⟨W9.heap.size, 0, none⟩) 2 2)
 have hA11 : Below w.heap.size w ((W9.alloc (.cells #[.slice p7 XA.length c7, .slice p9 YB.length c9] 36)).setCell ⟨gb, 3, none⟩ (.slice (some ⟨W9.heap.size, 0, none⟩) 2 2)) := hA10.setCell hgl _
 go_upto_region 8 with fail
 clear k10 f10 hg10 hz10 hk10 own10 ownA10 ownB10 hA10
 generalize (W9.alloc (.cells #[.slice p7 XA.length c7, .slice p9 YB.length c9] 36)).setCell ⟨gb, 3, none⟩ (.slice (some ⟨W9.heap.size, 0, none⟩) 2 2) = W11 at *
 generalize W9.heap.size = kb at *
 go_wp2_with (first | refine wpList_load_row rfl 27 _ rfl gb rfl 27 #[.int .i64 2, .slice p4 EV.length c4, .slice pr rf.length cr, .slice (some ⟨kb, 0, none⟩) 2 2, .slice none 0 0, .slice none 0 0, .slice none 0 0, .slice none 0 0] (0, 0) _ hg11 Tryz.underlying27 rfl kW ?_ | refine wpList_store_row rfl 27 _ _ rfl w.heap.size #[.int .i64 2, .slice p4 EV.length c4, .slice pr rf.length cr, .slice (some ⟨kb, 0, none⟩) 2 2, .slice none 0 0, .slice none 0 0, .slice none 0 0, .slice none 0 0] rfl rfl 27 _ hz11 kW rfl kW ?_)
 (try simp only [Exit.inBlock, Exit.then])
 refine bodyPost_ret (results_cell_row rfl _ _ w.heap.size 27 _ (0, 0) _ rfl (hz11.setRow' _) Tryz.underlying27 rfl kW) rfl ?_
 have eE := EVQ.out
 have eX := XAQ.out
 have eY := YBQ.out
 subst eE eX eY
 have hA12 := hA11.trans (Qan (B := w.heap.size) (w := W11) (m := w.heap.size) #[.int .i64 2, .slice p4 (iniE ++ evs).length c4, .slice pr rf.length cr, .slice (some ⟨kb, 0, none⟩) 2 2, .slice none 0 0, .slice none 0 0, .slice none 0 0, .slice none 0 0] nW)
 have hlen : (iniE ++ evs).length * 40 ≤ 140737488355328 := by rw [List.length_append]; simp [iniE]; omega
 have ow := Qh1 own11 hz11 dW #[.int .i64 2, .slice p4 (iniE ++ evs).length c4, .slice pr rf.length cr, .slice (some ⟨kb, 0, none⟩) 2 2, .slice none 0 0, .slice none 0 0, .slice none 0 0, .slice none 0 0]
 have owA := Qh1 ownA11 hz11 dW #[.int .i64 2, .slice p4 (iniE ++ evs).length c4, .slice pr rf.length cr, .slice (some ⟨kb, 0, none⟩) 2 2, .slice none 0 0, .slice none 0 0, .slice none 0 0, .slice none 0 0]
 have owB := Qh1 ownB11 hz11 dW #[.int .i64 2, .slice p4 (iniE ++ evs).length c4, .slice pr rf.length cr, .slice (some ⟨kb, 0, none⟩) 2 2, .slice none 0 0, .slice none 0 0, .slice none 0 0, .slice none 0 0]
 have hk := hk11.rowOther (Qav hk11 hz11 dW) #[.int .i64 2, .slice p4 (iniE ++ evs).length c4, .slice pr rf.length cr, .slice (some ⟨kb, 0, none⟩) 2 2, .slice none 0 0, .slice none 0 0, .slice none 0 0, .slice none 0 0]
 refine ⟨⟨.slice p4 (iniE ++ evs).length c4, .slice pr rf.length cr, .slice (some ⟨kb, 0, none⟩) 2 2, .slice none 0 0, .slice none 0 0, .slice none 0 0, .slice none 0 0⟩, rfl, ⟨⟨?_, ?_, ?_, Qdd _, Qdd _, Qdd _, Qdd _⟩, ⟨_, _, _, _, _, rfl⟩, fun b cs ds hb => ⟨?_, ?_⟩⟩, hA12⟩
 ·exact Qgc ow hlen
 ·exact HR.out.below hA12
 ·exact Qux hk owA owB (by simp; omega) (by simp; omega)
 ·exact Qgc (Qh1 ow hb dW ds) hlen
 ·exact Qux (hk.rowOther (Qav hk hb dW) ds) (Qh1 owA hb dW ds) (Qh1 owB hb dW ds) (by simp; omega) (by simp; omega)
theorem Quy {W : World} {b : Nat} {l : List Ev} (h : Blk W b 34 (Qay l).toArray) (hl : l.length ≤ 1000) : EvArg W (.slice (some ⟨b, 0, none⟩) l.length l.length) l := by
 refine Qgc (base := 0) ⟨Qcm l, .inr ⟨b, l.length, _, rfl, Nat.zero_le _, h, Nat.le_refl _, by unfold maxLen; omega, by simp [Qcm], ?_⟩⟩ oW
 rw [List.toList_toArray, ← Qcm l, List.take_length]
theorem Qk1 {W : World} {b : Nat} {l : List (Int × Int)} (h : Blk W b 30 (Qam l).toArray) (hl : l.length ≤ 1000) : PArg W (.slice (some ⟨b, 0, none⟩) l.length l.length) l := by
 refine Qef (base := 0) ⟨Qd2 l, .inr ⟨b, l.length, _, rfl, Nat.zero_le _, h, Nat.le_refl _, by unfold maxLen; omega, by simp [Qd2], ?_⟩⟩ oW
 rw [List.toList_toArray, ← Qd2 l, List.take_length]
structure GrS (w : World) (V : GrV) (g : Gr) : Prop where
 gr : GrR w V g
 one : (V.gs g).all (·.oneCell') = true
 st : ∀ (b : Nat) (cs ds : Array Value), Blk w b 27 cs → GrR (w.setRow b ds) V g
theorem TwoR.grs {w : World} {V : GrV} {b n c : Nat} {g : Gr} {cs : Array Value} (h : TwoR w V (.slice (some ⟨b, 0, none⟩) n c) g) (hp : Blk w b 30 cs) (hg : ∀ W, Blk W b 30 cs → PArg W (.slice (some ⟨b, 0, none⟩) n c) g.rf) (hr : g.rmw = []) (ha : g.addr = []) (hd : g.dat = []) (ht : g.ctrl = []) : GrS w V g := by
 obtain ⟨p, n1, c1, k, q, rfl⟩ := h.form
 refine ⟨h.gr, by kernel_rfl, fun x cx dx hx => ?_⟩
 obtain ⟨h1, h2⟩ := h.st x cx dx hx
 refine ⟨h1, hg _ (hp.rowOther (Qav hp hx dW) dx), h2, ?_, ?_, ?_, ?_⟩
 ·rw [hr]; exact Qdd _
 ·rw [ha]; exact Qdd _
 ·rw [hd]; exact Qdd _
 ·rw [ht]; exact Qdd _
theorem Ql0 (wk : World) (evs : List Ev) (rf : List (Int × Int)) (x y : List Int) (h0 : 0 < evs.length) (hl : evs.length ≤ 1000) (hr : rf.length ≤ 1000) (hx : x.length ≤ 1000) (hy : y.length ≤ 1000) :
  Calls Tryz.prog 11 #[.slice (some ⟨wk.heap.size, 0, none⟩) evs.length evs.length, .slice (some ⟨wk.heap.size + 1, 0, none⟩) rf.length rf.length, .slice (some ⟨wk.heap.size + 1 + 1, 0, none⟩) x.length x.length, .slice (some ⟨wk.heap.size + 1 + 1 + 1, 0, none⟩) y.length y.length] ((((wk.alloc (.cells (Qay evs).toArray 34)).alloc (.cells (Qam rf).toArray 30)).alloc (.cells (Qaf x).toArray 3)).alloc (.cells (Qaf y).toArray 3))
   fun r w' => ∃ V, r = .returned (GrV.val V (Qni evs rf x y)) ∧ GrS w' V (Qni evs rf x y) ∧ Below wk.heap.size wk w' := by
 have hE : Blk ((((wk.alloc (.cells (Qay evs).toArray 34)).alloc (.cells (Qam rf).toArray 30)).alloc (.cells (Qaf x).toArray 3)).alloc (.cells (Qaf y).toArray 3)) (wk.heap.size) 34 (Qay evs).toArray := ((((Blk.new wk 34 (Qay evs).toArray).alloc _).alloc _).alloc _)
 have hP : Blk ((((wk.alloc (.cells (Qay evs).toArray 34)).alloc (.cells (Qam rf).toArray 30)).alloc (.cells (Qaf x).toArray 3)).alloc (.cells (Qaf y).toArray 3)) (wk.heap.size + 1) 30 (Qam rf).toArray := (((Blk.new2 wk _ 30 (Qam rf).toArray).alloc _).alloc _)
 have hX : Blk ((((wk.alloc (.cells (Qay evs).toArray 34)).alloc (.cells (Qam rf).toArray 30)).alloc (.cells (Qaf x).toArray 3)).alloc (.cells (Qaf y).toArray 3)) (wk.heap.size + 1 + 1) 3 (Qaf x).toArray := ((Blk.new3 wk _ _ 3 (Qaf x).toArray).alloc _)
 have hY : Blk ((((wk.alloc (.cells (Qay evs).toArray 34)).alloc (.cells (Qam rf).toArray 30)).alloc (.cells (Qaf x).toArray 3)).alloc (.cells (Qaf y).toArray 3)) (wk.heap.size + 1 + 1 + 1) 3 (Qaf y).toArray := Blk.new4 wk _ _ _ 3 (Qaf y).toArray
 have hB : Below wk.heap.size wk ((((wk.alloc (.cells (Qay evs).toArray 34)).alloc (.cells (Qam rf).toArray 30)).alloc (.cells (Qaf x).toArray 3)).alloc (.cells (Qaf y).toArray 3)) := (((((Below.refl wk.heap.size wk).alloc sW _).alloc sW _).alloc (by simp; omega) _).alloc (by simp; omega) _)
 refine (Qo9 _ _ _ _ evs rf x y _ (Quy hE hl) (Qk1 hP hr) (IntsZ.blk hX) (IntsZ.blk hY) h0 hl hx hy).mono ?_
 rintro r w' ⟨V, rfl, h, hB'⟩
 exact ⟨V, rfl, h.grs (hP.of_below hB') (fun W hW => Qk1 hW hr) rfl rfl rfl rfl, Qaa hB hB.size hB'⟩
theorem Qjj (a b : Int) (w : World) : Calls Tryz.prog 15 #[.int .i64 a, .int .i64 b] w fun r w' => ∃ V, r = .returned (GrV.val V (Qhv a b)) ∧ GrR w' V (Qhv a b) ∧ Below w.heap.size w w' := by
 have hz := Blk.new w 27 gZ
 have hA0 : Below w.heap.size w (w.alloc (.cells gZ 27)) := bW.alloc nW _
 unfold gZ at hA0
 go_enter Tryz.func15, Tryz.ntmps15
 go_wp2_with fail
 refine (Qbr 0 2 0 1 a _).mono ?_
 rintro e w1 ⟨rfl, hB1⟩
 have hA1 := Qaa hA0 hA0.size hB1
 go_wp2_with fail
 refine (Qbr 0 1 1 0 b _).mono ?_
 rintro e w2 ⟨rfl, hB2⟩
 have hA2 := Qaa hA1 hA1.size hB2
 go_wp2_with fail
 refine (Qbr 1 2 1 1 a _).mono ?_
 rintro e w3 ⟨rfl, hB3⟩
 have hA3 := Qaa hA2 hA2.size hB3
 go_wp2_with fail
 refine (Qbr 1 1 0 0 b _).mono ?_
 rintro e w4 ⟨rfl, hB4⟩
 have hA4 := Qaa hA3 hA3.size hB4
 go_wp2_with fail
 refine (Ql0 w4 [⟨0, 2, 0, 1, a⟩, ⟨0, 1, 1, 0, b⟩, ⟨1, 2, 1, 1, a⟩, ⟨1, 1, 0, 0, b⟩] [(1, 3), (0, 5)] [2] [4] sW sW sW sW sW).mono ?_
 rintro e wz ⟨V, rfl, hG, hBz⟩
 have hzz : Blk wz w.heap.size 27 gZ := ((((hz.of_below hB1).of_below hB2).of_below hB3).of_below hB4).of_below hBz
 have hAz := Qaa hA4 hA4.size hBz
 clear hB1 hB2 hB3 hB4 hBz hz
 go_wp2_with (first | refine wpList_store_row rfl 27 _ _ rfl w.heap.size (V.gs (Qhv a b)) rfl rfl 27 _ hzz kW rfl hG.one ?_)
 (try simp only [Exit.inBlock, Exit.then])
 refine bodyPost_ret (results_cell_row rfl _ _ w.heap.size 27 (V.gs (Qhv a b)) (0, 0) _ rfl (hzz.setRow' _) Tryz.underlying27 rfl kW) rfl ?_
 exact ⟨V, rfl, hG.st _ _ _ hzz, hAz.trans (Qan _ nW)⟩
theorem Qgo (a b : Int) (w : World) : Calls Tryz.prog 10 #[.int .i64 a, .int .i64 b] w fun r w' => ∃ V, r = .returned (GrV.val V (Qez a b)) ∧ GrR w' V (Qez a b) ∧ Below w.heap.size w w' := by
 have hz := Blk.new w 27 gZ
 have hA0 : Below w.heap.size w (w.alloc (.cells gZ 27)) := bW.alloc nW _
 unfold gZ at hA0
 go_enter Tryz.func10, Tryz.ntmps10
 go_wp2_with fail
 refine (Qbr 0 2 0 1 11 _).mono ?_
 rintro e w1 ⟨rfl, hB1⟩
 have hA1 := Qaa hA0 hA0.size hB1
 go_wp2_with fail
 refine (Qbr 0 2 1 1 a _).mono ?_
 rintro e w2 ⟨rfl, hB2⟩
 have hA2 := Qaa hA1 hA1.size hB2
 go_wp2_with fail
 refine (Qbr 1 1 1 1 b _).mono ?_
 rintro e w3 ⟨rfl, hB3⟩
 have hA3 := Qaa hA2 hA2.size hB3
 go_wp2_with fail
 refine (Qbr 1 1 0 0 11 _).mono ?_
 rintro e w4 ⟨rfl, hB4⟩
 have hA4 := Qaa hA3 hA3.size hB4
 go_wp2_with fail
 refine (Ql0 w4 [⟨0, 2, 0, 1, 11⟩, ⟨0, 2, 1, 1, a⟩, ⟨1, 1, 1, 1, b⟩, ⟨1, 1, 0, 0, 11⟩] [(3, 4), (0, 5)] [2] [3] sW sW sW sW sW).mono ?_
 rintro e wz ⟨V, rfl, hG, hBz⟩
 have hzz : Blk wz w.heap.size 27 gZ := ((((hz.of_below hB1).of_below hB2).of_below hB3).of_below hB4).of_below hBz
 have hAz := Qaa hA4 hA4.size hBz
 clear hB1 hB2 hB3 hB4 hBz hz
 go_wp2_with (first | refine wpList_store_row rfl 27 _ _ rfl w.heap.size (V.gs (Qez a b)) rfl rfl 27 _ hzz kW rfl hG.one ?_)
 (try simp only [Exit.inBlock, Exit.then])
 refine bodyPost_ret (results_cell_row rfl _ _ w.heap.size 27 (V.gs (Qez a b)) (0, 0) _ rfl (hzz.setRow' _) Tryz.underlying27 rfl kW) rfl ?_
 exact ⟨V, rfl, hG.st _ _ _ hzz, hAz.trans (Qan _ nW)⟩
theorem Qer (V : GrV) (g : Gr) (ax : Int) (u : Value) (l : List Int) (w : World) (h : GrR w V g) (hF : Frm w) (hT : Tab w) (hu : ListR Qfo w u l) (hl : l.length ≤ 1000) (hans : ∀ ax' l' e', Qgi g ax' l' e' → ax' = ax ∧ l' = l ∧ e' = 0) :
  Calls Tryz.prog 13 #[V.val g, .int .i64 ax, u] w fun r w' => r = .returned (.bool true) ∧ Below w.heap.size w w' := by
 have hg0 := Blk.new w 27 (V.gs g)
 have hB0 : Below w.heap.size w (w.alloc (.cells (V.gs g) 27)) := bW.alloc nW _
 have e1 : w.alloc (.cells (V.gs g) 27) = w.alloc (.cells #[.int .i64 g.cells, V.ev, V.rf, V.co, V.rmw, V.addr, V.dat, V.ctrl] 27) := rfl
 rw [e1] at hB0 hg0
 have HV := Qa (h.below hB0)
 have HF := Qa (hF.step hB0)
 have HT := Qa (hT.step' hB0)
 have HU := Qa (hu.below hB0)
 have HB0 := Qa hB0
 have HG0 := Qa hg0
 have HA := Qa hans
 have HL := Qa hl
 obtain ⟨pu, cu, rfl, _⟩ := hu
 unfold GrV.val
 clear h hF hT hB0 hg0 e1 hans hl
 go_enter Tryz.func13, Tryz.ntmps13
 go_upto_region 1 with fail
 generalize w.alloc (.cells #[.int .i64 g.cells, V.ev, V.rf, V.co, V.rmw, V.addr, V.dat, V.ctrl] 27) = W0 at *
 go_wp2_with (first | refine wpList_load_row rfl 27 _ rfl w.heap.size rfl 27 (V.gs g) (0, 0) _ HG0.out Tryz.underlying27 rfl kW ?_)
 refine (Qf6 V g W0 HV.out HF.out HT.out).mono ?_
 rintro e w1 ⟨ax', v, l', er, rfl, hans, hown, hB1⟩
 obtain ⟨rfl, rfl, rfl⟩ := HA.out ax' l' er hans
 have HO := Qa (Qnw (enc := Qfo) hown)
 have HU1 := Qa (HU.out.below hB1)
 have HB1 : Hid (Below w.heap.size w w1) := Qaa HB0.out HB0.out.size hB1
 obtain ⟨pv1, cv1, rfl⟩ := Qag hown
 clear hans hown hB1 HU HG0 HA
 go_wp2_with fail
 refine (Qom _ _ l' l' w1 HO.out HU1.out (by have := HL.out; omega)).mono ?_
 rintro e w2 ⟨rfl, hB2⟩
 have q : decide (l' = l') = true := by simp
 rw [q]
 clear q
 go_wp2_with fail
 go_ret
 exact ⟨rfl, Qaa HB1.out HB1.out.size hB2⟩
theorem Qns (w : World) : ListR Qfo w (.slice none 0 0) [] := ⟨none, 0, rfl, fun h => by simp at h⟩
theorem Qz {w : World} {base : Nat} {v : Value} {l : List (Nat × Nat)} (h : w.ownsRow base 30 2 v l.length (Qdv l)) (hl : l.length ≤ 9223372036854775807) : PArg w v (l.map (fun x => ((x.1 : Int), (x.2 : Int)))) := by
 rcases Qyf h with ⟨rfl, rfl⟩ | ⟨s, cap, rfl, _, hp⟩
 ·exact .inl ⟨_, _, rfl, rfl⟩
 ·refine .inr ⟨s, 0, cap, by simp, ?_, by simpa using hl⟩
  refine ⟨hp.lt, fun i x hx => ?_, fun i x hx => ?_⟩
  ·rw [List.getElem?_map] at hx
   obtain ⟨y, hy, rfl⟩ := Option.map_eq_some_iff.1 hx
   have := hp.fst i y hy
   simpa using this
  ·rw [List.getElem?_map] at hx
   obtain ⟨y, hy, rfl⟩ := Option.map_eq_some_iff.1 hx
   have := hp.snd i y hy
   simpa using this
theorem Qh2 (w : World) (hF : Frm w) (hT : Tab w) : Calls Tryz.prog 9 #[] w fun r w' => r = .returned (.bool true) ∧ Below w.heap.size w w' := by
 have HF0 := Qa hF
 have HT0 := Qa hT
 clear hF hT
 go_enter Tryz.func9, Tryz.ntmps9
 go_wp2_with fail
 refine (Qgo 13 12 w).mono ?_
 rintro e w1 ⟨V, rfl, hG, hB1⟩
 go_wp2_with fail
 refine (Qng V (Qez 13 12) w1 hG (HF0.out.step hB1) (HT0.out.step' hB1)).mono ?_
 rintro e w2 (⟨hc, _⟩ | ⟨_, ks, ls, rfl, hR, hB2⟩)
 ·exact absurd Qkx hc
 have hz := Blk.new w2 44 #[.pointer none, .pointer none, .pointer none, .pointer none, .pointer none]
 have hBz : Below w2.heap.size w2 ((w2.alloc (.cells #[.pointer none, .pointer none, .pointer none, .pointer none, .pointer none] 44)).setRow w2.heap.size (fcC ks)) := ((Below.refl w2.heap.size w2).alloc nW _).trans (Qan _ nW)
 have HFB := Qa (hz.setRow' (fcC ks))
 have hA2 : Below w.heap.size w w2 := Qaa hB1 hB1.size hB2
 have HA : Hid (Below w.heap.size w ((w2.alloc (.cells #[.pointer none, .pointer none, .pointer none, .pointer none, .pointer none] 44)).setRow w2.heap.size (fcC ks))) := Qaa hA2 hA2.size hBz
 have HSW := Qa ((hR 0 oW).1.below hBz)
 go_upto_region 2 with (first | refine wpList_store_row rfl 44 _ _ rfl w2.heap.size (fcC ks) rfl rfl 44 #[.pointer none, .pointer none, .pointer none, .pointer none, .pointer none] hz kW rfl kW ?_)
 clear hz hBz hA2 hB1 hB2 hR hG
 generalize (w2.alloc (.cells #[.pointer none, .pointer none, .pointer none, .pointer none, .pointer none] 44)).setRow w2.heap.size (fcC ks) = w3 at *
 generalize w2.heap.size = fb at *
 have HF := Qa (HF0.out.step HA.out)
 have HT := Qa (HT0.out.step' HA.out)
 have y0 : w3.cell? ⟨fb, 0, none⟩ = some (pv (ks 0)) := HFB.out.cell rfl
 have y1 : w3.cell? ⟨fb, 1, none⟩ = some (pv (ks 1)) := HFB.out.cell rfl
 have y2 : w3.cell? ⟨fb, 2, none⟩ = some (pv (ks 2)) := HFB.out.cell rfl
 have y3 : w3.cell? ⟨fb, 3, none⟩ = some (pv (ks 3)) := HFB.out.cell rfl
 have y4 : w3.cell? ⟨fb, 4, none⟩ = some (pv (ks 4)) := HFB.out.cell rfl
 go_upto_region 4 with fail
 clear y0 y1 y2 y3 y4
 go_wp2_with fail
 refine (Qjj 11 11 w3).mono ?_
 rintro e w4 ⟨V4, rfl, hG4, hB4⟩
 have HG4 := Qa hG4
 have HBw4 : Hid (Below w3.heap.size w3 w4) := hB4
 clear hG4 hB4
 go_wp2_with fail
 refine (Qer V4 (Qhv 11 11) 0 _ [] _ HG4.out (HF.out.step HBw4.out) (HT.out.step' HBw4.out) (Qns _) sW (fun _ _ _ h => Qwl h)).mono ?_
 rintro e w5 ⟨rfl, hB5⟩
 have HBw5 : Hid (Below w3.heap.size w3 w5) := Qaa HBw4.out HBw4.out.size hB5
 clear hB5
 go_wp2_with fail
 refine (Qjj 13 12 w5).mono ?_
 rintro e w6 ⟨V6, rfl, hG6, hB6⟩
 have HG6 := Qa hG6
 have HBw6 : Hid (Below w3.heap.size w3 w6) := Qaa HBw5.out HBw5.out.size hB6
 clear hG6 hB6
 go_wp2_with fail
 have hL7 := Blk.new w6 3 #[.int .i64 2, .int .i64 3, .int .i64 4, .int .i64 5]
 have hX7 : Below w6.heap.size w6 (w6.alloc (.cells #[.int .i64 2, .int .i64 3, .int .i64 4, .int .i64 5] 3)) := bW.alloc nW _
 have HX7 : Hid (Below w3.heap.size w3 (w6.alloc (.cells #[.int .i64 2, .int .i64 3, .int .i64 4, .int .i64 5] 3))) := Qaa HBw6.out HBw6.out.size hX7
 refine (Qer V6 (Qhv 13 12) 2 _ [2, 3, 4, 5] _ (HG6.out.below hX7) (HF.out.step HX7.out) (HT.out.step' HX7.out) (Qpr (enc := Qfo) hL7) sW (fun _ _ _ h => Qrr h)).mono ?_
 rintro e w7 ⟨rfl, hB7⟩
 have HBw7 : Hid (Below w3.heap.size w3 w7) := Qaa HX7.out HX7.out.size hB7
 clear hL7 hX7 HX7 hB7
 go_wp2_with fail
 refine (Qgo 11 11 w7).mono ?_
 rintro e w8 ⟨V8, rfl, hG8, hB8⟩
 have HG8 := Qa hG8
 have HBw8 : Hid (Below w3.heap.size w3 w8) := Qaa HBw7.out HBw7.out.size hB8
 clear hG8 hB8
 go_wp2_with fail
 refine (Qer V8 (Qez 11 11) 0 _ [] _ HG8.out (HF.out.step HBw8.out) (HT.out.step' HBw8.out) (Qns _) sW (fun _ _ _ h => Qwm h)).mono ?_
 rintro e w9 ⟨rfl, hB9⟩
 have HBw9 : Hid (Below w3.heap.size w3 w9) := Qaa HBw8.out HBw8.out.size hB9
 clear hB9
 go_wp2_with fail
 refine (Qgo 13 12 w9).mono ?_
 rintro e w10 ⟨V10, rfl, hG10, hB10⟩
 have HG10 := Qa hG10
 have HBw10 : Hid (Below w3.heap.size w3 w10) := Qaa HBw9.out HBw9.out.size hB10
 clear hG10 hB10
 go_wp2_with fail
 have hL11 := Blk.new w10 3 #[.int .i64 2, .int .i64 3, .int .i64 4, .int .i64 5]
 have hX11 : Below w10.heap.size w10 (w10.alloc (.cells #[.int .i64 2, .int .i64 3, .int .i64 4, .int .i64 5] 3)) := bW.alloc nW _
 have HX11 : Hid (Below w3.heap.size w3 (w10.alloc (.cells #[.int .i64 2, .int .i64 3, .int .i64 4, .int .i64 5] 3))) := Qaa HBw10.out HBw10.out.size hX11
 refine (Qer V10 (Qez 13 12) 2 _ [2, 3, 4, 5] _ (HG10.out.below hX11) (HF.out.step HX11.out) (HT.out.step' HX11.out) (Qpr (enc := Qfo) hL11) sW (fun _ _ _ h => Qrs h)).mono ?_
 rintro e w11 ⟨rfl, hB11⟩
 have HBw11 : Hid (Below w3.heap.size w3 w11) := Qaa HX11.out HX11.out.size hB11
 clear hL11 hX11 HX11 hB11
 have y1 : w11.cell? ⟨fb, 0, none⟩ = some (pv (ks 0)) := (HFB.out.of_below HBw11.out).cell rfl
 go_wp2_with fail
 clear y1
 refine (Qri (ks 0) (ls 0) (RL (Qez 13 12) 0) w11 (HSW.out.below HBw11.out) (HT.out.step' HBw11.out)).mono ?_
 rintro e wp ⟨u, rfl, hu, hBp⟩
 rw [show Qia (RL (Qez 13 12) 0) = [(0, 2), (0, 5), (1, 3), (3, 4), (5, 2)] from QAj] at hu
 have HU := Qa (Qz (l := [(0, 2), (0, 5), (1, 3), (3, 4), (5, 2)]) hu dW)
 obtain ⟨pu, cu, rfl⟩ := Qag hu
 have HBp : Hid (Below w3.heap.size w3 wp) := Qaa HBw11.out HBw11.out.size hBp
 clear hu hBp
 go_wp2_with fail
 have hBa : Below wp.heap.size wp (wp.alloc (.cells #[.int .i64 0, .int .i64 2, .int .i64 0, .int .i64 5, .int .i64 1, .int .i64 3, .int .i64 3, .int .i64 4, .int .i64 5, .int .i64 2] 30)) := bW.alloc nW _
 refine (Qm0 _ _ [(0, 2), (0, 5), (1, 3), (3, 4), (5, 2)] [(0, 2), (0, 5), (1, 3), (3, 4), (5, 2)] _ (HU.out.below hBa) (Qk1 (l := [(0, 2), (0, 5), (1, 3), (3, 4), (5, 2)]) (Blk.new wp 30 _) sW)).mono ?_
 rintro e wq ⟨rfl, hB⟩
 have HBq : Hid (Below w.heap.size w wq) := Qaa (Qaa HA.out HA.out.size HBp.out) (Qaa HA.out HA.out.size HBp.out).size (hBa.trans (hB.mono hBa.size))
 have q : decide (([(0, 2), (0, 5), (1, 3), (3, 4), (5, 2)] : List (Int × Int)) = [(0, 2), (0, 5), (1, 3), (3, 4), (5, 2)]) = true := by decide
 rw [q]
 clear q hB hBa
 go_wp2_with fail
 go_ret
 exact ⟨rfl, HBq.out⟩
end Go.Proofs.YtdkogbfamdnheaaGreatDoor
