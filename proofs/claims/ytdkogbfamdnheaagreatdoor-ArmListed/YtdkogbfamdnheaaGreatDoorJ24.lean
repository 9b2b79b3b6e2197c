import Derived.Test.YtdkogbfamdnheaaGreatDoorJ21
import Derived.Test.YtdkogbfamdnheaaGreatDoorIdentWalk
namespace Go.Proofs.YtdkogbfamdnheaaGreatDoor
open Go.RowKit Go.Shelf Sx
set_option maxRecDepth 100000
set_option maxHeartbeats 16000000
set_option linter.unusedSimpArgs false
set_option linter.unusedVariables false
set_option maxRecDepth 100000 in
theorem Qjy (m n c0 : Nat) (p : Option Addr) (v : Value) (l : List Bool) (w : World) (hc : w.cell? ⟨m, 1, none⟩ = some (.slice p n c0)) (hS : SetAt w v l) (hT : Tab w) :
  Calls Tryz.prog 141 #[pv m, v] w fun e w' => ∃ b c, e = .returned (pv b) ∧ Made w w' b c (Qa8 ((n : Nat) : Int) l) := by
 have D := Qa (Qry (n : Int) v l w hS hT)
 clear hS hT
 go_enter Tryz.func141, Tryz.ntmps141
 go_wp2_with fail
 refine D.out.mono ?_
 rintro e w1 ⟨b, c, rfl, hM⟩
 go_wp2_with fail
 go_ret
 exact ⟨b, c, rfl, hM⟩
theorem Qsj {w : World} {b : Nat} {l : List Bool} {cap : Nat} (h : Blk w b 4 (Qax l)) : SetAt w (.slice (some ⟨b, 0, none⟩) l.length cap) l :=
 .inr ⟨b, 0, cap, rfl, ⟨h.lt, fun i x hx => by rw [Nat.zero_add]; exact h.cell (by simp [Qax, hx])⟩⟩
def mdL (g : Gr) (ms : List Int) : List Bool := Qd8 (fun e => ms.contains e.m) g.evs
theorem Qtt (g : Gr) (ms : List Int) : (mdL g ms).length = g.evs.length := by simp [mdL, Qd8]
theorem Qp3 (m : Nat) (V : GrV) (g : Gr) (u : Value) (ms : List Int) (w : World) (h : GrR w V g) (hc : ∀ j v, (V.gs g)[j]? = some v → w.cell? ⟨m, j, none⟩ = some v) (hu : IntsR w u ms) (hm : ms.length ≤ 9223372036854775807) (hT : Tab w) :
  Calls Tryz.prog 143 #[pv m, u] w fun e w' => ∃ b c, e = .returned (pv b) ∧ Made w w' b c (Qa8 (g.evs.length : Int) (mdL g ms)) := by
 obtain ⟨pu, cu, rfl, _⟩ := Qfn hu
 obtain ⟨Ve, Vr, Vc, Vm, Va, Vd, Vt⟩ := V
 obtain ⟨p1, k1, e1, _, _⟩ := h.ev
 obtain ⟨p2, k2, e2, _, _⟩ := Qae h.rf
 obtain ⟨p4, k4, e4, _, _⟩ := Qae h.rmw
 obtain ⟨p5, k5, e5, _, _⟩ := Qae h.addr
 obtain ⟨p6, k6, e6, _, _⟩ := Qae h.dat
 obtain ⟨p7, k7, e7, _, _⟩ := Qae h.ctrl
 obtain ⟨p3, k3, e3, _, _⟩ := Qde h.co
 dsimp only at e1 e2 e3 e4 e5 e6 e7
 subst e1 e2 e3 e4 e5 e6 e7
 have d0 : w.cell? ⟨m, 0, none⟩ = some (.int .i64 g.cells) := hc 0 _ rfl
 have d1 : w.cell? ⟨m, 1, none⟩ = some (.slice p1 g.evs.length k1) := hc 1 _ rfl
 have d2 : w.cell? ⟨m, 2, none⟩ = some (.slice p2 g.rf.length k2) := hc 2 _ rfl
 have d3 : w.cell? ⟨m, 3, none⟩ = some (.slice p3 g.co.length k3) := hc 3 _ rfl
 have d4 : w.cell? ⟨m, 4, none⟩ = some (.slice p4 g.rmw.length k4) := hc 4 _ rfl
 have d5 : w.cell? ⟨m, 5, none⟩ = some (.slice p5 g.addr.length k5) := hc 5 _ rfl
 have d6 : w.cell? ⟨m, 6, none⟩ = some (.slice p6 g.dat.length k6) := hc 6 _ rfl
 have d7 : w.cell? ⟨m, 7, none⟩ = some (.slice p7 g.ctrl.length k7) := hc 7 _ rfl
 have D := Qa (Qr1 _ g _ ms w h hu hm)
 unfold GrV.val at D
 dsimp only at D
 have HT := Qa hT
 clear h hc hu hT
 go_enter Tryz.func143, Tryz.ntmps143
 go_wp2_with fail
 refine D.out.mono ?_
 rintro e w1 ⟨gb, rfl, hg, hgl, hB⟩
 have d1' : w1.cell? ⟨m, 1, none⟩ = some (.slice p1 g.evs.length k1) := (hB.cell (p := ⟨m, 1, none⟩) (block_lt_of_cell d1)).trans d1
 have hS : SetAt w1 (.slice (some ⟨gb, 0, none⟩) g.evs.length g.evs.length) (mdL g ms) := by have := Qsj (cap := g.evs.length) hg; rw [show (Qd8 (fun e => ms.contains e.m) g.evs) = mdL g ms from rfl, Qtt] at this; exact this
 have D2 := Qa (Qjy m g.evs.length k1 p1 _ _ w1 d1' hS (HT.out.step' hB))
 have HB := Qa hB
 clear hS hg D hB d0 d1 d2 d3 d4 d5 d6 d7 d1'
 go_wp2_with fail
 refine D2.out.mono ?_
 rintro e w2 ⟨b, c, rfl, hM⟩
 go_wp2_with fail
 go_ret
 exact ⟨b, c, rfl, hM.rel, Nat.le_trans HB.out.size hM.hb, Nat.le_trans HB.out.size hM.hc, Qaa HB.out HB.out.size hM.below⟩
def Qa7 (A : List Nat) (Ls : List (List Nat)) : List Nat := Ls.foldl Qe4 A
theorem Qje (b0 c0 s : Nat) (A : List Nat) (rs : List (Nat × Nat × List Nat)) (w : World) (h0 : IsRel w b0 c0 A) (h : RelsAt w s rs) (hm : rs.length ≤ 1000) (hT : Tab w) (B : Nat) (hB0 : B ≤ b0 ∧ B ≤ c0 ∧ B ≤ w.heap.size) :
  Calls Tryz.prog 140 #[pv b0, .slice (some ⟨s, 0, none⟩) rs.length rs.length] w fun e w' => ∃ b c, e = .returned (pv b) ∧ (B ≤ b ∧ B ≤ c) ∧ IsRel w' b c (Qa7 A (rs.map (·.2.2))) ∧ Below w.heap.size w w' := by
 have HN := Qa hB0
 have H0 := Qa h0
 have H := Qa h
 have HT := Qa hT
 clear h0 h hT hB0
 go_enter Tryz.func140, Tryz.ntmps140
 go_wp2_with fail
 go_loopg [5, 11] rs.length (fun f v5 v11 wr => ∃ (i b c : Nat), v11 = .int .i64 ((i : Nat) : Int) ∧ v5 = pv b ∧ i ≤ rs.length ∧ Hid (i + f = rs.length) ∧ Hid (Below w.heap.size w wr) ∧ Hid (B ≤ b ∧ B ≤ c) ∧ Hid (IsRel wr b c (Qa7 A ((rs.take i).map (·.2.2)))))
 case atStart => exact ⟨0, b0, c0, rfl, rfl, Nat.zero_le _, Nat.zero_add _, Below.refl _ _, ⟨HN.out.1, HN.out.2.1⟩, H0.out⟩
 case round =>
  obtain ⟨i, b, c, rfl, rfl, hi, HIF, HB, HL, HR⟩ := hrel
  generalize hwq : wr = wa at *
  clear hwq
  by_cases hlt : i < rs.length
  ·have I0 : (0 : Int) ≤ (i : Int) := by omega
   have I1 : (i : Int) < (rs.length : Int) := by omega
   obtain ⟨⟨bb, cb, L⟩, hx⟩ : ∃ x, rs[i]? = some x := ⟨_, List.getElem?_eq_getElem hlt⟩
   have hra := H.out.below HB.out
   have lc := hra.cell i _ hx
   have D := Qa (Ql6 b c bb cb _ L wa HR.out (hra.rel i _ hx) (HT.out.step' HB.out))
   have HX := Qa hx
   clear hra hx
   dsimp only at lc
   go_wp2_with fail
   refine D.out.mono ?_
   rintro e w1 ⟨b2, c2, rfl, hM⟩
   go_wp2_with fail
   go_roundg (rs.length - (i + 1))
   case measure => have := HIF.out; omega
   case rel =>
    refine ⟨i + 1, b2, c2, by go_num, rfl, oW, by have := HIF.out; rw [Hid]; omega, Qaa HB.out HB.out.size hM.below, ⟨Nat.le_trans HN.out.2.2 (Nat.le_trans HB.out.size hM.hb), Nat.le_trans HN.out.2.2 (Nat.le_trans HB.out.size hM.hc)⟩, ?_⟩
    have := hM.rel
    rw [Hid, List.take_add_one, HX.out, Option.toList_some, List.map_append, Qa7, List.foldl_append]
    exact this
  ·obtain rfl : i = rs.length := by omega
   go_wp2_with fail
   go_ret
   have := HR.out
   rw [List.take_length] at this
   exact ⟨b, c, rfl, HL.out, this, HB.out⟩
theorem Touch.step {c : Nat} {w w1 w2 : World} (h : Touch c w w1) (hb : Below w1.heap.size w1 w2) : Touch c w w2 :=
 ⟨hb.os.trans h.os, hb.tape.trans h.tape, hb.output.trans h.output, Nat.le_trans h.size hb.size, fun k hk hc => (hb.block k (Nat.lt_of_lt_of_le hk h.size)).trans (h.block k hk hc)⟩
def Rels (w : World) (E : List (Nat × Nat × List Nat)) : Prop := ∀ x ∈ E, IsRel w x.1 x.2.1 x.2.2
theorem Rels.cons {w : World} {E : List (Nat × Nat × List Nat)} {b c : Nat} {L : List Nat} (h : Rels w E) (hr : IsRel w b c L) : Rels w ((b, c, L) :: E) := fun x hx => by
 rcases List.mem_cons.1 hx with rfl | hx
 ·exact hr
 ·exact h x hx
theorem Qav {w : World} {b g : Nat} {t u : TypeId} {cs ds : Array Value} (h : Blk w b t cs) (hg : Blk w g u ds) (ht : t ≠ u) : b ≠ g := by
 intro e
 subst e
 have := h.symm.trans hg
 simp at this
 exact ht this.2
theorem Rels.nil (w : World) : Rels w [] := fun _ hx => absurd hx List.not_mem_nil
theorem Qm6 {w : World} (rs : List (Nat × Nat × List Nat)) (h : Rels w rs) : RelsAt (w.alloc (.cells (rs.map (fun r => pv r.1)).toArray 42)) w.heap.size rs := by
 have hb := Blk.new w 42 (rs.map (fun r => pv r.1)).toArray
 refine ⟨fun i r hr => hb.cell (by simp [hr]), hb.lt, fun i r hr => (h r (List.mem_of_getElem? hr)).below (bW.alloc nW _)⟩
theorem Qzx (w : World) (ms : List Int) : IntsR (w.alloc (.cells (ms.map (fun x => .int .i64 x)).toArray 3)) (.slice (some ⟨w.heap.size, 0, none⟩) ms.length ms.length) ms := by
 have hb := Blk.new w 3 (ms.map (fun x => .int .i64 x)).toArray
 exact .inr ⟨w.heap.size, 0, ms.length, rfl, hb.lt, fun i x hx => by rw [Nat.zero_add]; exact hb.cell (by simp [hx])⟩
def fxC (n : Nat) (bs : Nat → Nat) (br bw bf : Nat) : Array Value := #[pv (bs 0), pv (bs 1), pv (bs 2), pv (bs 3), pv (bs 4), pv (bs 5), pv (bs 6), pv (bs 7), pv (bs 8), pv (bs 9), .slice (some ⟨br, 0, none⟩) n n, .slice (some ⟨bw, 0, none⟩) n n, .slice (some ⟨bf, 0, none⟩) n n]
def moC (V : GrV) (g : Gr) (bs : Nat → Nat) (br bw bf : Nat) (r : Nat → Value) : Array Value := #[.int .i64 g.cells, V.ev, V.rf, V.co, V.rmw, V.addr, V.dat, V.ctrl, pv (bs 0), pv (bs 1), pv (bs 2), pv (bs 3), pv (bs 4), pv (bs 5), pv (bs 6), pv (bs 7), pv (bs 8), pv (bs 9), .slice (some ⟨br, 0, none⟩) g.evs.length g.evs.length, .slice (some ⟨bw, 0, none⟩) g.evs.length g.evs.length, .slice (some ⟨bf, 0, none⟩) g.evs.length g.evs.length, r 0, r 1, r 2, r 3, r 4]
def Qx2 (r : Nat → Value) (i : Nat) (u : Value) : Nat → Value := fun j => if j = i then u else r j
theorem Qzy (V : GrV) (g : Gr) (bs : Nat → Nat) (br bw bf : Nat) (r : Nat → Value) (i : Nat) (hi : i < 5) (u : Value) : (moC V g bs br bw bf r).setIfInBounds (21 + i) u = moC V g bs br bw bf (Qx2 r i u) := by
 match i, hi with
 | 0, _ => rfl
 | 1, _ => rfl
 | 2, _ => rfl
 | 3, _ => rfl
 | 4, _ => rfl
 | n + 5, h => omega
theorem Qx3 : ([] : List (Nat × Nat × List Nat)).map (·.2.2) = [] := rfl
theorem Qha {b c : Nat} {L : List Nat} {t : List (Nat × Nat × List Nat)} {T : List (List Nat)} (h : t.map (·.2.2) = T) : ((b, c, L) :: t).map (·.2.2) = L :: T := by rw [List.map_cons, h]
theorem Qrf (s : Nat) (rs : List (Nat × Nat × List Nat)) (Lv : List (List Nat)) (hv : rs.map (·.2.2) = Lv) (w : World) (h : RelsAt w s rs) (hm : rs.length ≤ 1000) :
  Calls Tryz.prog 29 #[.slice (some ⟨s, 0, none⟩) rs.length rs.length] w fun e w' => ∃ b c, e = .returned (pv b) ∧ Made w w' b c (Qa1 Lv) := by
 subst hv
 exact Qhp s rs w h hm
theorem Qsk {w : World} {b : Nat} {g : Gr} {x : Int} (h : Blk w b 4 (Qax (Qba g x))) : SetAt w (.slice (some ⟨b, 0, none⟩) g.evs.length g.evs.length) (Qba g x) := by
 have := Qsj (cap := g.evs.length) h
 rw [Qhl] at this
 exact this
attribute [local go_sem] Oper.semAt_some
def Qeg (A : List Bool) (l : List Nat) : List Bool := l.foldl (fun (A : List Bool) (q : Nat) => A.set q true) A
theorem Qtu (A : List Bool) (l : List Nat) (q : Nat) : Qeg A (l ++ [q]) = (Qeg A l).set q true := by simp [Qeg]
theorem Qgu (A : List Bool) (l : List Nat) : (Qeg A l).length = A.length := by
 unfold Qeg
 induction l generalizing A with
 | nil => rfl
 | cons q l ih => rw [List.foldl_cons, ih, List.length_set]
def Qf4 (L : List Nat) (l : List Bool) : List Bool := Qeg (List.replicate L.length false) (Qad (Qaj L (Qad (Qca L.length l))))
theorem Qx4 (b c : Nat) (L : List Nat) (v : Value) (l : List Bool) (w : World) (h : IsRel w b c L) (hS : SetAt w v l) (hT : Tab w) :
  CallsIn Fence.wide 6 Tryz.prog 142 #[pv b, v] w fun e w' => ∃ v', e = .returned v' ∧ w'.ownsRow w.heap.size 4 1 v' (Qf4 L l).length ((Qf4 L l).map Value.bool) ∧ Below w.heap.size w w' := by
 have hl := h.len
 have hmk := Qt4 L.length hl
 refine callsIn_of_wp_marks Tryz.func142 rfl trivial ?_ rfl
 simp only [Tryz.ntmps142, List.size_toArray, List.length_cons, List.length_nil, Nat.reduceAdd, Nat.reduceSub, Array.replicate_succ, Array.replicate_zero, List.push_toArray, List.append_toArray, List.nil_append, List.cons_append]
 gi_wp2_with fail
 refine ⟨trivial, ?_⟩
 refine (callsIn_wide.2 (Qfq b c L _ h)).mono ?_
 rintro e w' ⟨rfl, rfl⟩
 gi_wp2_with fail
 refine ⟨trivial, ?_⟩
 have hA : Below w.heap.size w ((w.alloc (.cells (Qax (List.replicate L.length false)) 4)).alloc (.cells #[.slice (some ⟨w.heap.size, 0, none⟩) L.length L.length] 65)) := ((Below.refl _ w).alloc nW _).alloc sW _
 refine (callsIn_wide.2 (Qfq b c L _ (h.below hA))).mono ?_
 rintro e w' ⟨rfl, rfl⟩
 gi_wp2_with fail
 refine ⟨trivial, ?_⟩
 refine (callsIn_wide.2 (Qkp L.length hl v l _ (hS.below hA))).mono ?_
 rintro e w2 ⟨rfl, hB2⟩
 have hw2 : Below w.heap.size w w2 := hA.trans (hB2.mono (by simp; omega))
 have hg2 : Blk w2 w.heap.size 4 (Qax (List.replicate L.length false)) := ((Blk.new w _ _).alloc _).of_below hB2
 have hbx2 : Blk w2 (w.heap.size + 1) 65 #[.slice (some ⟨w.heap.size, 0, none⟩) L.length L.length] := (Blk.new2 w _ _ _).of_below hB2
 clear hA hB2 hmk
 gi_wp2_with fail
 refine ⟨trivial, ?_⟩
 refine (callsIn_wide.2 (Qin b c L (Qca L.length l) _ (h.below hw2) (hT.step hw2))).mono ?_
 rintro e w3 ⟨rfl, hB3⟩
 have hw3 : Below w.heap.size w w3 := Qaa hw2 hw2.size hB3
 have hg3 := hg2.of_below hB3
 have hbx3 := hbx2.of_below hB3
 have hT3 := hT.step hw3
 have HL : Hid (∀ p, p ∈ Qad (Qaj L (Qad (Qca L.length l))) → p < L.length) := by
  intro p hp
  have h1 := (Qbk.1 hp).2
  apply Nat.lt_of_not_le
  intro hle
  rw [Qb9 (Qhn h.low _) hle] at h1
  cases h1
 have HI : Hid (Qf4 L l = Qeg (List.replicate L.length false) (Qad (Qaj L (Qad (Qca L.length l))))) := rfl
 generalize Qca L.length l = M0 at *
 generalize Qaj L (Qad M0) = M at *
 clear hg2 hbx2 hw2 hB3
 have hs1 := hbx3.lt
 have hs3 := hg3.lt
 have hsw := hw3.size
 have hpos := hT.pos
 gi_wp2_with (refine ⟨trivial, ?_⟩; gi_at_call 72; refine (Qdz Fence.wide _ trivial rfl M _).mono ?_; rintro e w' ⟨rfl, rfl⟩)
 refine wpIn_rangeFunc_ownF rfl oW (gf := 114) (lb := #[.pointer (some ⟨w3.heap.size, 0, none⟩)]) rfl trivial (enters_of Tryz.func114 kW rfl)
  (Qcj M w3.heap.size (6 - 1) oW _ ?hB ?hT) belowK_t (belowK_b sW) bW (fun _ => rfl)
  (fun pre W => w3.heap.size + 1 ≤ W.heap.size ∧ Blk W w.heap.size 4 (Qax (Qeg (List.replicate L.length false) (Qbg pre))) ∧ Blk W (w.heap.size + 1) 65 #[.slice (some ⟨w.heap.size, 0, none⟩) L.length L.length] ∧ Tab W ∧ Below w.heap.size w W)
  (fun _ _ _ => False) ?hI (fun _ => Qdn) ?h0
  (fun x => { tmps := #[pv b, v, undef, undef, .slice none 0 0, pv (w.heap.size + 1), .int .i64 (x.1 : Int), pv b, .int .i64 L.length, .slice (some ⟨w.heap.size, 0, none⟩) L.length L.length, pv b, pv b, .int .i64 L.length, v, rv M0, rv M, .func (.func 114) #[] #[.pointer (some ⟨w3.heap.size, 0, none⟩)], .int .i64 (x.1 : Int), undef, undef, undef, undef], defers := [] }) ?assign ?body ?done ?stop
 case hB => exact Blk.new _ _ _
 case hT => exact hT3.alloc _
 case hI =>
  refine Qfp (fun s W hi => by simpa using hi.1) ?_
  rintro s W W' ⟨h1, h2, h3, h4, h5⟩ hb'
  have hb' : Below (w3.heap.size + 1) W W' := by simpa using hb'
  exact ⟨Nat.le_trans h1 hb'.size, h2.below hb' oW, h3.below hb' oW, h4.below hb' oW, h5.trans (hb'.mono oW)⟩
 case h0 => exact ⟨by simp, hg3.alloc _, hbx3.alloc _, hT3.alloc _, hw3.alloc hsw _⟩
 case assign =>
  intro l x W K hK
  gi_wp2
  exact hK
 case body =>
  rintro l pre x W ⟨h1, h2, h3, h4, h5⟩ _
  have k0 : W.cell? ⟨w.heap.size + 1, 0, none⟩ = some (.slice (some ⟨w.heap.size, 0, none⟩) L.length L.length) := h3.cell rfl
  have hq := HL.out x.1 x.2
  have hlen : (Qeg (List.replicate L.length false) (Qbg pre)).length = L.length := by rw [Qgu, List.length_replicate]
  obtain ⟨y, hy⟩ : ∃ y, (Qeg (List.replicate L.length false) (Qbg pre))[x.1]? = some y := ⟨_, List.getElem?_eq_getElem (by rw [hlen]; exact hq)⟩
  have k1 : W.cell? ⟨w.heap.size, x.1, none⟩ = some (.bool y) := h2.cell (by simp [Qax, hy])
  have f1 := h2.frozen x.1
  clear hlen hy
  gi_wp2
  refine ⟨KeepsOthers.setCell _ _ _, bW.setCell (by simp; omega) _, Nat.le_trans h1 (by simp [World.setCell]), ?_, h3.setOther sW _, h4.set (by simpa using hpos) _, h5.setCell nW _⟩
  rw [Qdy, Qtu, ← Qlr]
  exact h2.set _ _
 case done =>
  rintro D ys W hDD hys ⟨h1, h2, h3, h4, h5⟩ hK
  have k0 : W.cell? ⟨w.heap.size + 1, 0, none⟩ = some (.slice (some ⟨w.heap.size, 0, none⟩) L.length L.length) := h3.cell rfl
  rw [hys, ← HI.out] at h2
  gi_wp2
  have hmk : Marks w.heap.size W [D] := (Marks.nil _ _).cons hK (by simp at hDD; omega) (fun E hE => by cases hE)
  have hlen : (Qf4 L l).length = L.length := by rw [HI.out, Qgu, List.length_replicate]
  refine Qds hmk ⟨_, results_tmp rfl _ _ _, _, rfl, ?_, h5.trans (Qe5 hmk)⟩
  refine Qhd hmk ⟨by simp, .inr ⟨w.heap.size, L.length, Qax (Qf4 L l), by rw [hlen]; rfl, Nat.le_refl _, h2, oW, by unfold maxLen; omega, by simp [Qax, hlen], ?_⟩⟩
  simp only [Qax, Nat.mul_one, List.toList_toArray]
  exact List.take_of_length_le sW
 case stop =>
  rintro D c pre W _ _ h _
  exact h.elim
theorem Qrg (b c : Nat) (L : List Nat) (v : Value) (l : List Bool) (w : World) (h : IsRel w b c L) (hS : SetAt w v l) (hT : Tab w) :
  Calls Tryz.prog 142 #[pv b, v] w fun e w' => ∃ v', e = .returned v' ∧ w'.ownsRow w.heap.size 4 1 v' (Qf4 L l).length ((Qf4 L l).map Value.bool) ∧ Below w.heap.size w w' := callsIn_wide.1 (Qx4 b c L v l w h hS hT)
end Go.Proofs.YtdkogbfamdnheaaGreatDoor
namespace Go.Proofs.YtdkogbfamdnheaaGreatDoor
open Go.RowKit Go.Shelf Sx Relation
set_option maxRecDepth 100000
set_option maxHeartbeats 16000000
set_option linter.unusedSimpArgs false
set_option linter.unusedVariables false
theorem Qzz (n : Nat) (l : List Bool) (p : Nat) : (Qca n l).testBit p = true ↔ p < n ∧ l.getD p false = true := by
 unfold Qca
 rw [Qm1, Bool.and_eq_true, decide_eq_true_eq]
 constructor
 ·exact fun h => ⟨oW, h.2⟩
 ·rintro ⟨h1, h2⟩
  refine ⟨?_, h2⟩
  have : p < l.length := by
   apply Nat.lt_of_not_le
   intro hle
   rw [List.getD_eq_getElem?_getD, List.getElem?_eq_none hle] at h2
   cases h2
  omega
theorem Qgm {n : Nat} (hn : n ≤ 256) (l : List Bool) (p : Nat) : p ∈ Qad (Qca n l) ↔ p < n ∧ l.getD p false = true := by
 rw [Qbk, Qzz]
 exact ⟨fun h => h.2, fun h => ⟨oW, h⟩⟩
theorem Qhr : ∀ (l : List Nat) (X : List Nat), (Qc9 X l).length = X.length
 | [], _ => rfl
 | q :: l, X => by
  show (Qc9 (Qbc X q q true) l).length = _
  rw [Qhr l, Qgt]
theorem Qiw : ∀ (l : List Nat) (X : List Nat), (∀ q ∈ l, q < X.length) → ∀ a b, hs (Qc9 X l) a b ↔ hs X a b ∨ (a = b ∧ a ∈ l)
 | [], X, _, a, b => by simp [Qc9]
 | q :: l, X, hq, a, b => by
  show hs (Qc9 (Qbc X q q true) l) a b ↔ _
  rw [Qiw l _ (fun r hr => by rw [Qgt]; exact hq r (List.mem_cons_of_mem _ hr)), Qvz (hq q sW) (hq q sW)]
  constructor
  ·rintro ((h | ⟨rfl, rfl⟩) | ⟨rfl, h⟩)
   ·exact Or.inl h
   ·exact Or.inr ⟨rfl, by simp⟩
   ·exact Or.inr ⟨rfl, List.mem_cons_of_mem _ h⟩
  ·rintro (h | ⟨rfl, h⟩)
   ·exact Or.inl (Or.inl h)
   ·rcases List.mem_cons.1 h with rfl | h
    ·exact Or.inl (Or.inr ⟨rfl, rfl⟩)
    ·exact Or.inr ⟨rfl, h⟩
end Go.Proofs.YtdkogbfamdnheaaGreatDoor
