/- ArmDerives' walk. -/
import Derived.Test.YtdkogbfamdnheaaGreatDoorJ40
import Derived.Test.YtdkogbfamdnheaaGreatDoorJ35
namespace Go.Proofs.YtdkogbfamdnheaaGreatDoor
open Go.RowKit Go.Shelf Sx
set_option maxRecDepth 100000
set_option maxHeartbeats 16000000
set_option linter.unusedSimpArgs false
set_option linter.unusedVariables false
def QHu (g : Gr) (w w' : World) (ca : Array Value) (er : Int) : Prop := ((chk g true).1 ≠ 0 ∧ ca = Qgw ∧ er = 4) ∨ ((chk g true).1 = 0 ∧ er = 0 ∧ ∃ ks ls : Nat → Nat, ca = fcC ks ∧ ∀ i, i < 5 → IsRel w' (ks i) (ls i) (RL g i) ∧ w.heap.size ≤ ks i ∧ w.heap.size ≤ ls i)
theorem Qsh (V : GrV) (g : Gr) (w : World) (h : GrR w V g) (hF : Frm w) (hT : Tab w) :
  Calls Tryz.prog 17 #[V.val g] w fun e w' => ∃ ca er, e = .returned (.tuple #[.agg ca, .int .i64 er]) ∧ ca.size = 5 ∧ ca.all (·.oneCell') = true ∧ QHu g w w' ca er ∧ Below w.heap.size w w' := by
 refine (Qix V g w h hF hT).mono ?_
 rintro e w' (⟨h1, rfl, hB⟩ | ⟨h1, ks, ls, rfl, hr, hB⟩)
 ·exact ⟨_, _, rfl, rfl, by kernel_rfl, .inl ⟨h1, rfl, rfl⟩, hB⟩
 ·exact ⟨_, _, rfl, rfl, by kernel_rfl, .inr ⟨h1, rfl, ks, ls, rfl, hr⟩, hB⟩
theorem QH (g : Gr) (h : g.evs.length ≤ 256) (i : Nat) : (RL g i).length = g.evs.length := by
 match i with
 | 0 => exact (Qkp h).len
 | 1 => exact (Qnj h).len
 | 2 => exact (Qnk h).len
 | 3 => exact (Qnl h).len
 | n + 4 => exact (QB5 h).len
theorem LGG.noex {M : DLm} {w : World} (h : LGG M w) : LGG { M with ex := false } w :=
 { low := h.low, gr := h.gr, gu := h.gu, tab := h.tab, frm := h.frm, hn := h.hn, wf := h.wf, bx := h.bx, bu := h.bu, fa := h.fa, fb := h.fb, ra := fun e i hi => (by obtain ⟨⟨L, h1, h2, _⟩, h3⟩ := h.ra e i hi; exact ⟨⟨L, h1, h2, fun e => (by cases e)⟩, h3⟩), rb := h.rb }
theorem QD6 {M : DLm} {T : Nat} {w0 w : World} {σ : Nat → DLV} {a : Act} (h : (DlE M).Ga T w0 σ a w) : (DlE { M with ex := false }).Ga T w0 σ a w := ⟨h.low, LGG.noex h.g, h.is, h.nw, h.sz, h.df⟩
theorem Qld {P : Program} {A : Type} {E : Eng P A} {T : Nat} {w0 w : World} {σ : Nat → A} {a : Act} (no : A) (ks : List (Nat × A)) (h0 : E.isNo no = true) (hn : E.nw no = false) (hk : ∀ p ∈ ks, σ p.1 = p.2) (h : E.Ga T w0 σ a w) : E.Ga T w0 (Qas (fun _ => no) ks) a w := by
 refine h.less (fun d => ?_)
 rcases Qbm (σ := fun _ => no) (ks := ks) (x := d) with ⟨p, h1, rfl, h3⟩ | ⟨-, h2⟩
 ·exact .inr (h3.trans (hk p h1).symm)
 ·rw [h2]; exact .inl ⟨h0, hn⟩
abbrev lv (t : Nat) : DLV := ⟨t, 0, false⟩
abbrev lk (k : Int) : DLV := ⟨1, k, false⟩
abbrev lt (b : Bool) : DLV := ⟨2, 0, b⟩
abbrev k0 (er c : Int) : List (Nat × DLV) := [(1, lv 3), (3, lv 4), (4, lv 5), (5, lk er), (6, lv 6), (7, lk er), (8, lk c)]
abbrev l0 (er c : Int) : Nat → DLV := Qas (fun _ => lv 0) (k0 er c)
abbrev ko (k : Nat) : List (Nat × DLV) := [(1, lv 3), (3, lv 4), (6, lv 6), (10, lv 7), (11, lv 15), (12, lk ((k : Nat) : Int))]
abbrev ki (k p : Nat) : List (Nat × DLV) := (13, lk ((p : Nat) : Int)) :: ko k
abbrev lo (k : Nat) : Nat → DLV := Qas (fun _ => lv 0) (ko k)
abbrev li (k p : Nat) : Nat → DLV := Qas (fun _ => lv 0) (ki k p)
theorem Qmv (V : GrV) (g : Gr) (w : World) (h : GrR w V g) (hb : GrB g) (hF : Frm w) (hT : Tab w) : Calls Tryz.prog 4 #[V.val g] w fun r w' => r = .returned (.bool true) ∧ Below w.heap.size w w' := by
 obtain ⟨Va1, Va2, Va3, Va4, Va5, Va6, Va7⟩ := V
 obtain ⟨p1a, k1a, e1a, _, _⟩ := h.ev
 obtain ⟨p2a, k2a, e2a, _, _⟩ := Qab h.rf
 obtain ⟨p4a, k4a, e4a, _, _⟩ := Qab h.rmw
 obtain ⟨p5a, k5a, e5a, _, _⟩ := Qab h.addr
 obtain ⟨p6a, k6a, e6a, _, _⟩ := Qab h.dat
 obtain ⟨p7a, k7a, e7a, _, _⟩ := Qab h.ctrl
 obtain ⟨p3a, k3a, e3a, _, _⟩ := Qbd h.co
 dsimp only at e1a e2a e3a e4a e5a e6a e7a
 subst e1a
 subst e2a
 subst e3a
 subst e4a
 subst e5a
 subst e6a
 subst e7a
 have HV := Qa h
 have HF := Qa hF
 have HT := Qa hT
 have HBG := Qa hb
 have hG := Blk.new w 27 #[.int .i64 g.cells, .slice p1a g.evs.length k1a, .slice p2a g.rf.length k2a, .slice p3a g.co.length k3a, .slice p4a g.rmw.length k4a, .slice p5a g.addr.length k5a, .slice p6a g.dat.length k6a, .slice p7a g.ctrl.length k7a]
 have hB : Below w.heap.size w (w.alloc (.cells #[.int .i64 g.cells, .slice p1a g.evs.length k1a, .slice p2a g.rf.length k2a, .slice p3a g.co.length k3a, .slice p4a g.rmw.length k4a, .slice p5a g.addr.length k5a, .slice p6a g.dat.length k6a, .slice p7a g.ctrl.length k7a] 27)) := (Below.refl _ _).alloc (Nat.le_refl _) _
 unfold GrV.val
 dsimp only
 clear h hF hT hb
 go_enter Tryz.func4, Tryz.ntmps4
 go_upto_region 1 with fail
 have HB0 := Qa hB
 have HG0 := Qa hG
 generalize w.alloc (.cells #[.int .i64 g.cells, .slice p1a g.evs.length k1a, .slice p2a g.rf.length k2a, .slice p3a g.co.length k3a, .slice p4a g.rmw.length k4a, .slice p5a g.addr.length k5a, .slice p6a g.dat.length k6a, .slice p7a g.ctrl.length k7a] 27) = W0 at *
 clear hB
 have d0a : W0.cell? ⟨w.heap.size, 0, none⟩ = some (.int .i64 g.cells) := hG.cell rfl
 have d1a : W0.cell? ⟨w.heap.size, 1, none⟩ = some (.slice p1a g.evs.length k1a) := hG.cell rfl
 have d2a : W0.cell? ⟨w.heap.size, 2, none⟩ = some (.slice p2a g.rf.length k2a) := hG.cell rfl
 have d3a : W0.cell? ⟨w.heap.size, 3, none⟩ = some (.slice p3a g.co.length k3a) := hG.cell rfl
 have d4a : W0.cell? ⟨w.heap.size, 4, none⟩ = some (.slice p4a g.rmw.length k4a) := hG.cell rfl
 have d5a : W0.cell? ⟨w.heap.size, 5, none⟩ = some (.slice p5a g.addr.length k5a) := hG.cell rfl
 have d6a : W0.cell? ⟨w.heap.size, 6, none⟩ = some (.slice p6a g.dat.length k6a) := hG.cell rfl
 have d7a : W0.cell? ⟨w.heap.size, 7, none⟩ = some (.slice p7a g.ctrl.length k7a) := hG.cell rfl
 clear hG
 have D1 := Qa (Qot ⟨.slice p1a g.evs.length k1a, .slice p2a g.rf.length k2a, .slice p3a g.co.length k3a, .slice p4a g.rmw.length k4a, .slice p5a g.addr.length k5a, .slice p6a g.dat.length k6a, .slice p7a g.ctrl.length k7a⟩ g W0 (HV.out.below HB0.out) HBG.out)
 unfold GrV.val at D1
 dsimp only at D1
 go_wp2_with fail
 refine D1.out.mono ?_
 rintro e w1 ⟨U, rfl, hU, hB1⟩
 obtain ⟨Vb1, Vb2, Vb3, Vb4, Vb5, Vb6, Vb7⟩ := U
 obtain ⟨p1b, k1b, e1b, _, _⟩ := hU.ev
 obtain ⟨p2b, k2b, e2b, _, _⟩ := Qab hU.rf
 obtain ⟨p4b, k4b, e4b, _, _⟩ := Qab hU.rmw
 obtain ⟨p5b, k5b, e5b, _, _⟩ := Qab hU.addr
 obtain ⟨p6b, k6b, e6b, _, _⟩ := Qab hU.dat
 obtain ⟨p7b, k7b, e7b, _, _⟩ := Qab hU.ctrl
 obtain ⟨p3b, k3b, e3b, _, _⟩ := Qbd hU.co
 dsimp only at e1b e2b e3b e4b e5b e6b e7b
 subst e1b
 subst e2b
 subst e3b
 subst e4b
 subst e5b
 subst e6b
 subst e7b
 have HU := Qa hU
 have HB1 : Hid (Below w.heap.size w w1) := Qaa HB0.out HB0.out.size hB1
 have HG1 := Qa (HG0.out.of_below hB1)
 clear hU hB1 d0a d1a d2a d3a d4a d5a d6a d7a
 dsimp only
 go_upto_region 2 with fail
 have hG2 := Blk.new w1 27 #[.int .i64 g.cells, .slice p1b g.evs.length k1b, .slice p2b g.rf.length k2b, .slice p3b g.co.length k3b, .slice p4b g.rmw.length k4b, .slice p5b g.addr.length k5b, .slice p6b g.dat.length k6b, .slice p7b g.ctrl.length k7b]
 have hB2 : Below w1.heap.size w1 (w1.alloc (.cells #[.int .i64 g.cells, .slice p1b g.evs.length k1b, .slice p2b g.rf.length k2b, .slice p3b g.co.length k3b, .slice p4b g.rmw.length k4b, .slice p5b g.addr.length k5b, .slice p6b g.dat.length k6b, .slice p7b g.ctrl.length k7b] 27)) := (Below.refl _ _).alloc (Nat.le_refl _) _
 have HGa := Qa (HG1.out.of_below hB2)
 have HGb := Qa hG2
 have HB2 : Hid (Below w.heap.size w (w1.alloc (.cells #[.int .i64 g.cells, .slice p1b g.evs.length k1b, .slice p2b g.rf.length k2b, .slice p3b g.co.length k3b, .slice p4b g.rmw.length k4b, .slice p5b g.addr.length k5b, .slice p6b g.dat.length k6b, .slice p7b g.ctrl.length k7b] 27))) := Qaa HB1.out HB1.out.size hB2
 have HU2 := Qa (HU.out.below hB2)
 clear hG2 hB2 HG1 HG0 HU
 generalize w1.alloc (.cells #[.int .i64 g.cells, .slice p1b g.evs.length k1b, .slice p2b g.rf.length k2b, .slice p3b g.co.length k3b, .slice p4b g.rmw.length k4b, .slice p5b g.addr.length k5b, .slice p6b g.dat.length k6b, .slice p7b g.ctrl.length k7b] 27) = W2 at *
 generalize w1.heap.size = nb at *
 have D3 := Qa (Qsh ⟨.slice p1b g.evs.length k1b, .slice p2b g.rf.length k2b, .slice p3b g.co.length k3b, .slice p4b g.rmw.length k4b, .slice p5b g.addr.length k5b, .slice p6b g.dat.length k6b, .slice p7b g.ctrl.length k7b⟩ g W2 (HU2.out) (HF.out.step HB2.out) (HT.out.step' HB2.out))
 unfold GrV.val at D3
 dsimp only at D3
 have d0b : W2.cell? ⟨nb, 0, none⟩ = some (.int .i64 g.cells) := (HGb.out).cell rfl
 have d1b : W2.cell? ⟨nb, 1, none⟩ = some (.slice p1b g.evs.length k1b) := (HGb.out).cell rfl
 have d2b : W2.cell? ⟨nb, 2, none⟩ = some (.slice p2b g.rf.length k2b) := (HGb.out).cell rfl
 have d3b : W2.cell? ⟨nb, 3, none⟩ = some (.slice p3b g.co.length k3b) := (HGb.out).cell rfl
 have d4b : W2.cell? ⟨nb, 4, none⟩ = some (.slice p4b g.rmw.length k4b) := (HGb.out).cell rfl
 have d5b : W2.cell? ⟨nb, 5, none⟩ = some (.slice p5b g.addr.length k5b) := (HGb.out).cell rfl
 have d6b : W2.cell? ⟨nb, 6, none⟩ = some (.slice p6b g.dat.length k6b) := (HGb.out).cell rfl
 have d7b : W2.cell? ⟨nb, 7, none⟩ = some (.slice p7b g.ctrl.length k7b) := (HGb.out).cell rfl
 go_wp2_with fail
 refine D3.out.mono ?_
 rintro e w3 ⟨ca, er, rfl, hsz, hall, hd, hB⟩
 clear D3
 clear d0b d1b d2b d3b d4b d5b d6b d7b
 have HD3 := Qa hd
 clear hd
 have HX3 : Hid (Below W2.heap.size W2 w3) := hB
 have HY3 : Hid (Below W2.heap.size W2 w3) := hB
 have hz := Blk.new w3 44 #[.pointer none, .pointer none, .pointer none, .pointer none, .pointer none]
 have hinf : (Tryz.prog.info? 44).map (·.size) = some ca.size := by rw [hsz]; kernel_rfl
 have hsz' : (#[.pointer none, .pointer none, .pointer none, .pointer none, .pointer none] : Array Value).size = ca.size := hsz.symm
 have hBz : Below w3.heap.size w3 ((w3.alloc (.cells #[.pointer none, .pointer none, .pointer none, .pointer none, .pointer none] 44)).setRow w3.heap.size ca) := ((Below.refl w3.heap.size w3).alloc (Nat.le_refl _) _).trans (Qb _ (Nat.le_refl _))
 have HL3 : Hid (Blk ((w3.alloc (.cells #[.pointer none, .pointer none, .pointer none, .pointer none, .pointer none] 44)).setRow w3.heap.size ca) w3.heap.size 44 ca) := hz.setRow' ca
 have HZ3 := Qa hBz
 clear hBz hB
 go_upto_region 3 with (first | refine wpList_store_row rfl 44 _ _ rfl w3.heap.size ca rfl rfl 44 #[.pointer none, .pointer none, .pointer none, .pointer none, .pointer none] hz hinf hsz' hall ?_)
 clear hz hinf hsz hsz' hall
 have HV3 : Hid (Below W2.heap.size W2 ((w3.alloc (.cells #[.pointer none, .pointer none, .pointer none, .pointer none, .pointer none] 44)).setRow w3.heap.size ca)) := Qaa HX3.out HX3.out.size HZ3.out
 generalize (w3.alloc (.cells #[.pointer none, .pointer none, .pointer none, .pointer none, .pointer none] 44)).setRow w3.heap.size ca = W3 at *
 generalize hfa : w3.heap.size = fa at *
 have D4 := Qa (Qsh ⟨.slice p1b g.evs.length k1b, .slice p2b g.rf.length k2b, .slice p3b g.co.length k3b, .slice p4b g.rmw.length k4b, .slice p5b g.addr.length k5b, .slice p6b g.dat.length k6b, .slice p7b g.ctrl.length k7b⟩ g W3 (HU2.out.below HV3.out) (HF.out.step (Qaa HB2.out HB2.out.size HV3.out)) (HT.out.step' (Qaa HB2.out HB2.out.size HV3.out)))
 unfold GrV.val at D4
 dsimp only at D4
 have d0b : W3.cell? ⟨nb, 0, none⟩ = some (.int .i64 g.cells) := (HGb.out.of_below HV3.out).cell rfl
 have d1b : W3.cell? ⟨nb, 1, none⟩ = some (.slice p1b g.evs.length k1b) := (HGb.out.of_below HV3.out).cell rfl
 have d2b : W3.cell? ⟨nb, 2, none⟩ = some (.slice p2b g.rf.length k2b) := (HGb.out.of_below HV3.out).cell rfl
 have d3b : W3.cell? ⟨nb, 3, none⟩ = some (.slice p3b g.co.length k3b) := (HGb.out.of_below HV3.out).cell rfl
 have d4b : W3.cell? ⟨nb, 4, none⟩ = some (.slice p4b g.rmw.length k4b) := (HGb.out.of_below HV3.out).cell rfl
 have d5b : W3.cell? ⟨nb, 5, none⟩ = some (.slice p5b g.addr.length k5b) := (HGb.out.of_below HV3.out).cell rfl
 have d6b : W3.cell? ⟨nb, 6, none⟩ = some (.slice p6b g.dat.length k6b) := (HGb.out.of_below HV3.out).cell rfl
 have d7b : W3.cell? ⟨nb, 7, none⟩ = some (.slice p7b g.ctrl.length k7b) := (HGb.out.of_below HV3.out).cell rfl
 go_wp2_with fail
 refine D4.out.mono ?_
 rintro e w4 ⟨cb, fr, rfl, hsz, hall, hd, hB⟩
 clear D4
 clear d0b d1b d2b d3b d4b d5b d6b d7b
 have HD4 := Qa hd
 clear hd
 have HX4 : Hid (Below W2.heap.size W2 w4) := Qaa HV3.out HV3.out.size hB
 have HY4 : Hid (Below W3.heap.size W3 w4) := hB
 have hz := Blk.new w4 44 #[.pointer none, .pointer none, .pointer none, .pointer none, .pointer none]
 have hinf : (Tryz.prog.info? 44).map (·.size) = some cb.size := by rw [hsz]; kernel_rfl
 have hsz' : (#[.pointer none, .pointer none, .pointer none, .pointer none, .pointer none] : Array Value).size = cb.size := hsz.symm
 have hBz : Below w4.heap.size w4 ((w4.alloc (.cells #[.pointer none, .pointer none, .pointer none, .pointer none, .pointer none] 44)).setRow w4.heap.size cb) := ((Below.refl w4.heap.size w4).alloc (Nat.le_refl _) _).trans (Qb _ (Nat.le_refl _))
 have HL4 : Hid (Blk ((w4.alloc (.cells #[.pointer none, .pointer none, .pointer none, .pointer none, .pointer none] 44)).setRow w4.heap.size cb) w4.heap.size 44 cb) := hz.setRow' cb
 have HZ4 := Qa hBz
 clear hBz hB
 go_upto_region 4 with (first | refine wpList_store_row rfl 44 _ _ rfl w4.heap.size cb rfl rfl 44 #[.pointer none, .pointer none, .pointer none, .pointer none, .pointer none] hz hinf hsz' hall ?_)
 clear hz hinf hsz hsz' hall
 have HV4 : Hid (Below W2.heap.size W2 ((w4.alloc (.cells #[.pointer none, .pointer none, .pointer none, .pointer none, .pointer none] 44)).setRow w4.heap.size cb)) := Qaa HX4.out HX4.out.size HZ4.out
 generalize (w4.alloc (.cells #[.pointer none, .pointer none, .pointer none, .pointer none, .pointer none] 44)).setRow w4.heap.size cb = W4 at *
 generalize hfb : w4.heap.size = fb at *
 have HBw := Qa (Qaa HB2.out HB2.out.size HV4.out)
 have D5 := Qa (Qqf ⟨.slice p1a g.evs.length k1a, .slice p2a g.rf.length k2a, .slice p3a g.co.length k3a, .slice p4a g.rmw.length k4a, .slice p5a g.addr.length k5a, .slice p6a g.dat.length k6a, .slice p7a g.ctrl.length k7a⟩ g true W4 (HV.out.below HBw.out))
 unfold GrV.val at D5
 dsimp only at D5
 have d0a : W4.cell? ⟨w.heap.size, 0, none⟩ = some (.int .i64 g.cells) := (HGa.out.of_below HV4.out).cell rfl
 have d1a : W4.cell? ⟨w.heap.size, 1, none⟩ = some (.slice p1a g.evs.length k1a) := (HGa.out.of_below HV4.out).cell rfl
 have d2a : W4.cell? ⟨w.heap.size, 2, none⟩ = some (.slice p2a g.rf.length k2a) := (HGa.out.of_below HV4.out).cell rfl
 have d3a : W4.cell? ⟨w.heap.size, 3, none⟩ = some (.slice p3a g.co.length k3a) := (HGa.out.of_below HV4.out).cell rfl
 have d4a : W4.cell? ⟨w.heap.size, 4, none⟩ = some (.slice p4a g.rmw.length k4a) := (HGa.out.of_below HV4.out).cell rfl
 have d5a : W4.cell? ⟨w.heap.size, 5, none⟩ = some (.slice p5a g.addr.length k5a) := (HGa.out.of_below HV4.out).cell rfl
 have d6a : W4.cell? ⟨w.heap.size, 6, none⟩ = some (.slice p6a g.dat.length k6a) := (HGa.out.of_below HV4.out).cell rfl
 have d7a : W4.cell? ⟨w.heap.size, 7, none⟩ = some (.slice p7a g.ctrl.length k7a) := (HGa.out.of_below HV4.out).cell rfl
 go_wp2_with fail
 refine D5.out.mono ?_
 rintro e w5 ⟨rfl, hB5⟩
 clear D5
 clear d0a d1a d2a d3a d4a d5a d6a d7a
 have HY5 := Qa hB5
 clear hB5
 generalize hc1 : (chk g true).1 = c1 at *
 generalize (chk g true).2 = c2 at *
 go_upto_region 5 with fail
 rename_i K1 hR K hK
 have hz3 : Below w3.heap.size w3 W3 := by rw [hfa]; exact HZ3.out
 have hz4 : Below w4.heap.size w4 W4 := by rw [hfb]; exact HZ4.out
 have S4 : Hid (Below w4.heap.size w4 w5) := Qaa hz4 hz4.size HY5.out
 have S3 : Hid (Below W3.heap.size W3 w5) := Qaa HY4.out HY4.out.size S4.out
 have T3 : Hid (Below w3.heap.size w3 w5) := Qaa hz3 hz3.size S3.out
 have S2 : Hid (Below W2.heap.size W2 w5) := Qaa HV4.out HV4.out.size HY5.out
 have S0 : Hid (Below w.heap.size w w5) := Qaa HB2.out HB2.out.size S2.out
 have hs0 : w.heap.size ≤ W2.heap.size := HB2.out.size
 have hs3 : w3.heap.size ≤ W3.heap.size := hz3.size
 have F3 := Qa (HL3.out.of_below S3.out)
 have F4 := Qa (HL4.out.of_below HY5.out)
 clear hz3 hz4
 replace HGa : Blk W2 w.heap.size 27 ((⟨.slice p1a g.evs.length k1a, .slice p2a g.rf.length k2a, .slice p3a g.co.length k3a, .slice p4a g.rmw.length k4a, .slice p5a g.addr.length k5a, .slice p6a g.dat.length k6a, .slice p7a g.ctrl.length k7a⟩ : GrV).gs g) := HGa.out
 replace HGb : Blk W2 nb 27 ((⟨.slice p1b g.evs.length k1b, .slice p2b g.rf.length k2b, .slice p3b g.co.length k3b, .slice p4b g.rmw.length k4b, .slice p5b g.addr.length k5b, .slice p6b g.dat.length k6b, .slice p7b g.ctrl.length k7b⟩ : GrV).gs g) := HGb.out
 generalize (⟨.slice p1a g.evs.length k1a, .slice p2a g.rf.length k2a, .slice p3a g.co.length k3a, .slice p4a g.rmw.length k4a, .slice p5a g.addr.length k5a, .slice p6a g.dat.length k6a, .slice p7a g.ctrl.length k7a⟩ : GrV) = VA at HV HGa
 generalize (⟨.slice p1b g.evs.length k1b, .slice p2b g.rf.length k2b, .slice p3b g.co.length k3b, .slice p4b g.rmw.length k4b, .slice p5b g.addr.length k5b, .slice p6b g.dat.length k6b, .slice p7b g.ctrl.length k7b⟩ : GrV) = VB at HU2 HGb
 by_cases hz : c1 = 0
 case neg =>
  have hz' : (chk g true).1 ≠ 0 := by rw [hc1]; exact hz
  obtain ⟨rfl, rfl⟩ : ca = Qgw ∧ er = 4 := by
   rcases HD3.out with ⟨-, h⟩ | ⟨h, -⟩
   ·exact h
   ·exact absurd h hz'
  obtain ⟨rfl, rfl⟩ : cb = Qgw ∧ fr = 4 := by
   rcases HD4.out with ⟨-, h⟩ | ⟨h, -⟩
   ·exact h
   ·exact absurd h hz'
  have hG : LGG ⟨w.heap.size, nb, fa, fb, VA, VB, g, fun _ => 0, fun _ => 0, fun _ => 0, fun _ => 0, 0, W2, true, false⟩ w5 := { low := S2.out, gr := HV.out.below HB2.out, gu := HU2.out, tab := HT.out.step' HB2.out, frm := HF.out.step HB2.out, hn := fun e => (by cases e), wf := fun e => (by cases e), bx := HGa, bu := HGb, fa := F3.out, fb := F4.out, ra := fun e => (by cases e), rb := fun e => (by cases e) }
  have hq : (c1 != 0) = true := by simpa using hz
  refine Eng.reg_keep (E := DlE ⟨w.heap.size, nb, fa, fb, VA, VB, g, fun _ => 0, fun _ => 0, fun _ => 0, fun _ => 0, 0, W2, true, false⟩) (T := 123) (w0 := w) (σ := l0 4 c1) [(32, lt (c1 != 0))] byK byK byK (by exact trivial) byK byK byK (fun a' w' h' => hK a' w' (Eng.cond (E := DlE ⟨w.heap.size, nb, fa, fb, VA, VB, g, fun _ => 0, fun _ => 0, fun _ => 0, fun _ => 0, 0, W2, true, false⟩) (T := 123) (w0 := w) (σ := Qas (l0 4 c1) [(32, lt (c1 != 0))]) 32 true rfl hq (fun _ a w1 h => wp_seq (Eng.reg_ret (E := DlE ⟨w.heap.size, nb, fa, fb, VA, VB, g, fun _ => 0, fun _ => 0, fun _ => 0, fun _ => 0, 0, W2, true, false⟩) (fn := Tryz.f4) (R := fun r w' => r = .returned (.bool true) ∧ Below w.heap.size w w') 2 (lt true) byK byK byK (by exact trivial) byK byK rfl (fun a w h => by exact wp_ret h) (fun N w' v hl _ hv => ⟨congrArg Ending.returned (show v = .bool true from hv), hl⟩) a w1 h)) (fun e => by cases e) a' w' h')) _ _
   (Qlf (E := DlE ⟨w.heap.size, nb, fa, fb, VA, VB, g, fun _ => 0, fun _ => 0, fun _ => 0, fun _ => 0, 0, W2, true, false⟩) (lv 0) (k0 4 c1) rfl rfl S0.out hG (by intro p hp; simp only [List.mem_cons, List.not_mem_nil, or_false] at hp; rcases hp with rfl | rfl | rfl | rfl | rfl | rfl | rfl <;> exact ⟨rfl, rfl⟩) rfl rfl)
 subst hz
 have hw : Wf g true := Qmb hc1
 have hn : g.evs.length ≤ 256 := by have := rl0 (hw 0 (by omega)); simp [Qbj] at this; omega
 obtain ⟨h, -, -⟩ | ⟨-, rfl, ka, la, rfl, hra⟩ := HD3.out
 ·exact absurd hc1 h
 obtain ⟨h, -, -⟩ | ⟨-, rfl, kb, lb, rfl, hrb⟩ := HD4.out
 ·exact absurd hc1 h
 have hG : LGG ⟨w.heap.size, nb, fa, fb, VA, VB, g, ka, la, kb, lb, W3.heap.size, W2, false, true⟩ w5 := { low := S2.out, gr := HV.out.below HB2.out, gu := HU2.out, tab := HT.out.step' HB2.out, frm := HF.out.step HB2.out, hn := fun _ => hn, wf := fun _ => hw, bx := HGa, bu := HGb, fa := F3.out, fb := F4.out, ra := fun _ i hi => ⟨⟨RL g i, (hra i hi).1.below T3.out, QH g hn i, fun _ => rfl⟩, (hra i hi).2.2, Nat.lt_of_lt_of_le (hra i hi).1.rows.lt hs3⟩, rb := fun _ i hi => ⟨(hrb i hi).1.below S4.out, (hrb i hi).2⟩ }
 refine Eng.reg_keep (E := DlE ⟨w.heap.size, nb, fa, fb, VA, VB, g, ka, la, kb, lb, W3.heap.size, W2, false, true⟩) (T := 123) (w0 := w) (σ := l0 0 0) [(32, lt false)] byK byK byK (by exact trivial) byK byK byK (fun a' w' h' => hK a' w' (Eng.cond (E := DlE ⟨w.heap.size, nb, fa, fb, VA, VB, g, ka, la, kb, lb, W3.heap.size, W2, false, true⟩) (T := 123) (w0 := w) (σ := Qas (l0 0 0) [(32, lt false)]) 32 false rfl rfl (fun e => by cases e) (fun _ a w1 h => Go.wp_skip (hR a w1 ?_)) a' w' h')) _ _
  (Qlf (E := DlE ⟨w.heap.size, nb, fa, fb, VA, VB, g, ka, la, kb, lb, W3.heap.size, W2, false, true⟩) (lv 0) (k0 0 0) rfl rfl S0.out hG (by intro p hp; simp only [List.mem_cons, List.not_mem_nil, or_false] at hp; rcases hp with rfl | rfl | rfl | rfl | rfl | rfl | rfl <;> exact ⟨rfl, rfl⟩) rfl rfl)
 refine wp_seq (QF4 (M := ⟨w.heap.size, nb, fa, fb, VA, VB, g, ka, la, kb, lb, W3.heap.size, W2, false, true⟩) 3 10 58 rfl byK byK (by exact trivial) ⟨_, rfl, rfl, rfl, rfl⟩ byK byK byK byK ?_ a w1 h)
 clear h a w1 h' a' w'
 refine fun a w1 h => wp_seq (wp_seq (Eng.reg_keep (E := DlE ⟨w.heap.size, nb, fa, fb, VA, VB, g, ka, la, kb, lb, W3.heap.size, W2, false, true⟩) [(70, lt false)] byK byK byK (by exact trivial) byK byK byK ?_ a w1 h))
 clear a w1 h
 refine Eng.cond (E := DlE ⟨w.heap.size, nb, fa, fb, VA, VB, g, ka, la, kb, lb, W3.heap.size, W2, false, true⟩) 70 false rfl rfl (fun e => by cases e) (fun _ a w1 h => Go.wp_skip (wp_seq (Eng.reg_keep (E := DlE ⟨w.heap.size, nb, fa, fb, VA, VB, g, ka, la, kb, lb, W3.heap.size, W2, false, true⟩) [(11, lv 15)] byK byK byK (by exact trivial) byK byK byK ?_ a w1 h)))
 clear a w1 h
 refine fun a w1 h => wp_seq (wp_seq (Eng.reg_keep (E := DlE ⟨w.heap.size, nb, fa, fb, VA, VB, g, ka, la, kb, lb, W3.heap.size, W2, false, true⟩) [(12, lk 0)] byK byK byK (by exact trivial) byK byK byK (fun a w1 h => Qki 5 (fun k a w1 => (DlE ⟨w.heap.size, nb, fa, fb, VA, VB, g, ka, la, kb, lb, W3.heap.size, W2, false, false⟩).Ga 123 w (lo k) a w1) (QD6 (Qld (E := DlE ⟨w.heap.size, nb, fa, fb, VA, VB, g, ka, la, kb, lb, W3.heap.size, W2, false, true⟩) (lv 0) (ko 0) rfl rfl (by intro p hp; simp only [List.mem_cons, List.not_mem_nil, or_false] at hp; rcases hp with rfl | rfl | rfl | rfl | rfl | rfl <;> rfl) h)) ?_) a w1 h))
 clear h
 intro k a w1 hk7 h
 revert a w1 h
 refine Eng.reg_keep (E := DlE ⟨w.heap.size, nb, fa, fb, VA, VB, g, ka, la, kb, lb, W3.heap.size, W2, false, false⟩) [(85, lt (decide (((k : Nat) : Int) < 5)))] byK byK byK (by exact trivial) byK byK byK (fun a w1 h => ⟨_, (h.is 85 : a.eval (.tmp 85) = .bool (decide (((k : Nat) : Int) < 5))), fun hq => ?_, fun hq => ⟨(by have h7 : ((k : Nat) : Int) < 5 := of_decide_eq_true hq; omega), ?_⟩⟩)
 ·exact wp_seq (Eng.reg_ret (E := DlE ⟨w.heap.size, nb, fa, fb, VA, VB, g, ka, la, kb, lb, W3.heap.size, W2, false, false⟩) (fn := Tryz.f4) (R := fun r w' => r = .returned (.bool true) ∧ Below w.heap.size w w') 2 (lt true) byK byK byK (by exact trivial) byK byK rfl (fun a w h => by exact wp_ret h) (fun N w' v hl _ hv => ⟨congrArg Ending.returned (show v = .bool true from hv), hl⟩) a w1 h)
 have h7 : ((k : Nat) : Int) < 5 := of_decide_eq_true hq
 have hp7 : (0 : Int) ≤ ((k : Nat) : Int) ∧ ((k : Nat) : Int) < 5 := ⟨by omega, h7⟩
 refine wp_seq (Eng.reg_keep (E := DlE ⟨w.heap.size, nb, fa, fb, VA, VB, g, ka, la, kb, lb, W3.heap.size, W2, false, false⟩) [(13, lk 0)] byK byK byK (by exact trivial) byK byK byK (fun a w1 h => Qki g.evs.length (fun p a w1 => (DlE ⟨w.heap.size, nb, fa, fb, VA, VB, g, ka, la, kb, lb, W3.heap.size, W2, false, false⟩).Ga 123 w (li k p) a w1) (Qld (E := DlE ⟨w.heap.size, nb, fa, fb, VA, VB, g, ka, la, kb, lb, W3.heap.size, W2, false, false⟩) (lv 0) (ki k 0) rfl rfl (by intro p hp; simp only [List.mem_cons, List.not_mem_nil, or_false] at hp; rcases hp with rfl | rfl | rfl | rfl | rfl | rfl | rfl <;> rfl) h) ?_) a w1 h)
 clear h
 intro p a w1 hpn h
 revert a w1 h
 refine Eng.reg_keep (E := DlE ⟨w.heap.size, nb, fa, fb, VA, VB, g, ka, la, kb, lb, W3.heap.size, W2, false, false⟩) [(94, lt (decide (((p : Nat) : Int) < ((g.evs.length : Nat) : Int))))] byK byK byK (by exact ⟨fun _ => hp7, trivial⟩) byK byK byK (fun a w1 h => ⟨_, (h.is 94 : a.eval (.tmp 94) = .bool (decide (((p : Nat) : Int) < ((g.evs.length : Nat) : Int)))), fun hq => ?_, fun hq => ⟨Int.ofNat_lt.1 (of_decide_eq_true hq), ?_⟩⟩)
 ·exact Eng.reg_keep (E := DlE ⟨w.heap.size, nb, fa, fb, VA, VB, g, ka, la, kb, lb, W3.heap.size, W2, false, false⟩) [(12, lk (((k + 1 : Nat)) : Int))] byK byK byK (by exact ⟨fun _ => (⟨by omega, by omega⟩ : (-9223372036854775808 : Int) ≤ ((k : Nat) : Int) + 1 ∧ ((k : Nat) : Int) + 1 < 9223372036854775808), trivial⟩) byK byK byK (fun a w1 h => Qld (E := DlE ⟨w.heap.size, nb, fa, fb, VA, VB, g, ka, la, kb, lb, W3.heap.size, W2, false, false⟩) (lv 0) (ko (k + 1)) rfl rfl (by intro p hp; simp only [List.mem_cons, List.not_mem_nil, or_false] at hp; rcases hp with rfl | rfl | rfl | rfl | rfl | rfl <;> rfl) h) a w1 h
 ·refine Qy0 (M := ⟨w.heap.size, nb, fa, fb, VA, VB, g, ka, la, kb, lb, W3.heap.size, W2, false, false⟩) 14 100 101 102 110 ((k : Nat) : Int) ((p : Nat) : Int) rfl rfl hs0 rfl byK byK (by exact ⟨fun _ => hp7, fun _ => hp7, trivial⟩) ⟨_, 111, _, rfl, rfl, rfl, rfl, by decide, rfl⟩ byK byK byK byK byK byK (fun a w1 h => ?_) a w1 h
  exact Eng.reg_keep (E := DlE ⟨w.heap.size, nb, fa, fb, VA, VB, g, ka, la, kb, lb, W3.heap.size, W2, false, false⟩) [(13, lk (((p + 1 : Nat)) : Int))] byK byK byK (by exact ⟨fun _ => (⟨by omega, by omega⟩ : (-9223372036854775808 : Int) ≤ ((p : Nat) : Int) + 1 ∧ ((p : Nat) : Int) + 1 < 9223372036854775808), trivial⟩) byK byK byK (fun a w1 h => Qld (E := DlE ⟨w.heap.size, nb, fa, fb, VA, VB, g, ka, la, kb, lb, W3.heap.size, W2, false, false⟩) (lv 0) (ki k (p + 1)) rfl rfl (by intro p hp; simp only [List.mem_cons, List.not_mem_nil, or_false] at hp; rcases hp with rfl | rfl | rfl | rfl | rfl | rfl | rfl <;> rfl) h) a w1 h
end Go.Proofs.YtdkogbfamdnheaaGreatDoor
