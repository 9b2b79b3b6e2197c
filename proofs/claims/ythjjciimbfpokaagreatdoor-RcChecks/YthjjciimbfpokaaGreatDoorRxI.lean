/- RcChecks' walk. (Printed by rxi.py.) -/
import Derived.Test.YthjjciimbfpokaaGreatDoorRxH
import Derived.Test.YthjjciimbfpokaaGreatDoorJ39
import Derived.Test.YthjjciimbfpokaaGreatDoorJ37
import Derived.Test.YthjjciimbfpokaaGreatDoorJ40
import Derived.Test.YthjjciimbfpokaaGreatDoorJ34
namespace Go.Proofs.YthjjciimbfpokaaGreatDoor
open Go.RowKit Go.Shelf Sx
set_option maxRecDepth 100000
set_option maxHeartbeats 16000000
set_option linter.unusedSimpArgs false
set_option linter.unusedVariables false
theorem Qym {w w' : World} {base b : Nat} {v : Value} {l : List Int} (h : w.ownsRow base 3 1 v l.length (Qai l)) (hb : b < base) (ht : Touch b w w') : w'.ownsRow base 3 1 v l.length (Qai l) := by
 obtain ⟨h1, h2⟩ := h
 refine ⟨h1, ?_⟩
 rcases h2 with h2 | ⟨g, cap, cur, e1, e2, e3, e4⟩
 ·exact .inl h2
 ·have hk : Blk w g 3 cur := e3
  exact .inr ⟨g, cap, cur, e1, e2, hk.touch ht (by omega), e4⟩
theorem Qnk {w w' : World} {base : Nat} {v : Value} {l : List Int} (h : w.ownsRow base 3 1 v l.length (Qai l)) (hB : Below w.heap.size w w') : w'.ownsRow base 3 1 v l.length (Qai l) := by
 obtain ⟨h1, h2⟩ := h
 refine ⟨h1, ?_⟩
 rcases h2 with h2 | ⟨g, cap, cur, e1, e2, e3, e4⟩
 ·exact .inl h2
 ·have hk : Blk w g 3 cur := e3
  exact .inr ⟨g, cap, cur, e1, e2, hk.of_below hB, e4⟩
theorem Qh {w : World} {base : Nat} {v : Value} {l : List Int} (h : w.ownsRow base 3 1 v l.length (Qai l)) : ListR Qe9 w v l := (Qfx h).list
theorem QA2 {w : World} {base : Nat} {v : Value} {l : List Int} (h : w.ownsRow base 3 1 v l.length (Qai l)) : l.length ≤ 9223372036854775807 := by
 rcases h.2 with ⟨_, e⟩ | ⟨g, cap, cur, e1, e2, e3, h4, h5, _⟩
 ·omega
 ·unfold maxLen at h5
  omega
def ByR (W w3 wr : World) (oa : Option Addr) (n : Nat) : Prop := 0 < n → ∃ b cur, oa = some ⟨b, 0, none⟩ ∧ W.heap.size ≤ b ∧ b < w3.heap.size ∧ Blk wr b 3 cur ∧ n ≤ cur.size
theorem QGv {W w3 : World} {oa : Option Addr} {oc : Nat} {l : List Int} (h : w3.ownsRow W.heap.size 3 1 (.slice oa l.length oc) l.length (Qai l)) : ByR W w3 w3 oa l.length := by
 intro h0
 rcases h.2 with ⟨_, e⟩ | ⟨g, cap, cur, e1, e2, e3, e4⟩
 ·omega
 ·cases e1
  have hk : Blk w3 g 3 cur := e3
  refine ⟨g, cur, rfl, e2, hk.lt, hk, ?_⟩
  have h5 : (cur.toList.take (l.length * 1)).length = (Qai l).length := by rw [e4.2.2.2]
  rw [List.length_take, Qai, List.length_map, Nat.mul_one] at h5
  simp at h5
  omega
theorem ByR.below {W w3 wr wr' : World} {oa : Option Addr} {n : Nat} (h : ByR W w3 wr oa n) (hB : Below wr.heap.size wr wr') : ByR W w3 wr' oa n := fun h0 => by
 obtain ⟨b, cur, e, h1, h2, h3, h4⟩ := h h0
 exact ⟨b, cur, e, h1, h2, h3.of_below hB, h4⟩
theorem Qop (V : GrV) (g : Gr) (w : World) (h : GrR w V g) (hb : GrB g) (hF : Frm w) (hT : Tab w) : Calls Tryz.prog 5 #[V.val g] w fun r w' => r = .returned (.bool true) ∧ Below w.heap.size w w' := by
 obtain ⟨Va1, Va2, Va3, Va4, Va5, Va6, Va7⟩ := V
 obtain ⟨p1a, k1a, e1a, _, _⟩ := h.ev
 obtain ⟨p2a, k2a, e2a, _, _⟩ := Qab h.rf
 obtain ⟨p4a, k4a, e4a, _, _⟩ := Qab h.rmw
 obtain ⟨p5a, k5a, e5a, _, _⟩ := Qab h.addr
 obtain ⟨p6a, k6a, e6a, _, _⟩ := Qab h.dat
 obtain ⟨p7a, k7a, e7a, _, _⟩ := Qab h.ctrl
 obtain ⟨p3a, k3a, e3a, _, _⟩ := Qa8 h.co
 dsimp only at e1a e2a e3a e4a e5a e6a e7a
 subst e1a
 subst e2a
 subst e3a
 subst e4a
 subst e5a
 subst e6a
 subst e7a
 have HV := Qa h
 have HF := Qa hF
 have HT := Qa hT
 have HBG := Qa hb
 have hG := Blk.new w 27 #[.int .i64 g.cells, .slice p1a g.evs.length k1a, .slice p2a g.rf.length k2a, .slice p3a g.co.length k3a, .slice p4a g.rmw.length k4a, .slice p5a g.addr.length k5a, .slice p6a g.dat.length k6a, .slice p7a g.ctrl.length k7a]
 have hB : Below w.heap.size w (w.alloc (.cells #[.int .i64 g.cells, .slice p1a g.evs.length k1a, .slice p2a g.rf.length k2a, .slice p3a g.co.length k3a, .slice p4a g.rmw.length k4a, .slice p5a g.addr.length k5a, .slice p6a g.dat.length k6a, .slice p7a g.ctrl.length k7a] 27)) := (Below.refl _ _).alloc (Nat.le_refl _) _
 unfold GrV.val
 dsimp only
 clear h hF hT hb
 go_enter Tryz.func5, Tryz.ntmps5
 go_upto_region 1 with fail
 have HB0 := Qa hB
 have HG0 := Qa hG
 generalize w.alloc (.cells #[.int .i64 g.cells, .slice p1a g.evs.length k1a, .slice p2a g.rf.length k2a, .slice p3a g.co.length k3a, .slice p4a g.rmw.length k4a, .slice p5a g.addr.length k5a, .slice p6a g.dat.length k6a, .slice p7a g.ctrl.length k7a] 27) = W0 at *
 clear hB
 have d0a : W0.cell? ⟨w.heap.size, 0, none⟩ = some (.int .i64 g.cells) := hG.cell rfl
 have d1a : W0.cell? ⟨w.heap.size, 1, none⟩ = some (.slice p1a g.evs.length k1a) := hG.cell rfl
 have d2a : W0.cell? ⟨w.heap.size, 2, none⟩ = some (.slice p2a g.rf.length k2a) := hG.cell rfl
 have d3a : W0.cell? ⟨w.heap.size, 3, none⟩ = some (.slice p3a g.co.length k3a) := hG.cell rfl
 have d4a : W0.cell? ⟨w.heap.size, 4, none⟩ = some (.slice p4a g.rmw.length k4a) := hG.cell rfl
 have d5a : W0.cell? ⟨w.heap.size, 5, none⟩ = some (.slice p5a g.addr.length k5a) := hG.cell rfl
 have d6a : W0.cell? ⟨w.heap.size, 6, none⟩ = some (.slice p6a g.dat.length k6a) := hG.cell rfl
 have d7a : W0.cell? ⟨w.heap.size, 7, none⟩ = some (.slice p7a g.ctrl.length k7a) := hG.cell rfl
 clear hG
 have D1 := Qa (Qon ⟨.slice p1a g.evs.length k1a, .slice p2a g.rf.length k2a, .slice p3a g.co.length k3a, .slice p4a g.rmw.length k4a, .slice p5a g.addr.length k5a, .slice p6a g.dat.length k6a, .slice p7a g.ctrl.length k7a⟩ g W0 (HV.out.below HB0.out) HBG.out)
 unfold GrV.val at D1
 dsimp only at D1
 go_wp2_with fail
 refine D1.out.mono ?_
 rintro e w1 ⟨U, rfl, hU, hB1⟩
 obtain ⟨Vb1, Vb2, Vb3, Vb4, Vb5, Vb6, Vb7⟩ := U
 obtain ⟨p1b, k1b, e1b, _, _⟩ := hU.ev
 obtain ⟨p2b, k2b, e2b, _, _⟩ := Qab hU.rf
 obtain ⟨p4b, k4b, e4b, _, _⟩ := Qab hU.rmw
 obtain ⟨p5b, k5b, e5b, _, _⟩ := Qab hU.addr
 obtain ⟨p6b, k6b, e6b, _, _⟩ := Qab hU.dat
 obtain ⟨p7b, k7b, e7b, _, _⟩ := Qab hU.ctrl
 obtain ⟨p3b, k3b, e3b, _, _⟩ := Qa8 hU.co
 dsimp only at e1b e2b e3b e4b e5b e6b e7b
 subst e1b
 subst e2b
 subst e3b
 subst e4b
 subst e5b
 subst e6b
 subst e7b
 have HU := Qa hU
 have HB1 : Hid (Below w.heap.size w w1) := Qaa HB0.out HB0.out.size hB1
 have HG1 := Qa (HG0.out.of_below hB1)
 clear hU hB1 d0a d1a d2a d3a d4a d5a d6a d7a
 dsimp only
 go_upto_region 2 with fail
 have hG2 := Blk.new w1 27 #[.int .i64 g.cells, .slice p1b g.evs.length k1b, .slice p2b g.rf.length k2b, .slice p3b g.co.length k3b, .slice p4b g.rmw.length k4b, .slice p5b g.addr.length k5b, .slice p6b g.dat.length k6b, .slice p7b g.ctrl.length k7b]
 have hB2 : Below w1.heap.size w1 (w1.alloc (.cells #[.int .i64 g.cells, .slice p1b g.evs.length k1b, .slice p2b g.rf.length k2b, .slice p3b g.co.length k3b, .slice p4b g.rmw.length k4b, .slice p5b g.addr.length k5b, .slice p6b g.dat.length k6b, .slice p7b g.ctrl.length k7b] 27)) := (Below.refl _ _).alloc (Nat.le_refl _) _
 have HGa := Qa (HG1.out.of_below hB2)
 have HGb := Qa hG2
 have HB2 : Hid (Below w.heap.size w (w1.alloc (.cells #[.int .i64 g.cells, .slice p1b g.evs.length k1b, .slice p2b g.rf.length k2b, .slice p3b g.co.length k3b, .slice p4b g.rmw.length k4b, .slice p5b g.addr.length k5b, .slice p6b g.dat.length k6b, .slice p7b g.ctrl.length k7b] 27))) := Qaa HB1.out HB1.out.size hB2
 have HU2 := Qa (HU.out.below hB2)
 clear hG2 hB2 HG1 HG0 HU
 generalize w1.alloc (.cells #[.int .i64 g.cells, .slice p1b g.evs.length k1b, .slice p2b g.rf.length k2b, .slice p3b g.co.length k3b, .slice p4b g.rmw.length k4b, .slice p5b g.addr.length k5b, .slice p6b g.dat.length k6b, .slice p7b g.ctrl.length k7b] 27) = W2 at *
 generalize w1.heap.size = nb at *
 have D2 := Qa (Qg2 ⟨.slice p1b g.evs.length k1b, .slice p2b g.rf.length k2b, .slice p3b g.co.length k3b, .slice p4b g.rmw.length k4b, .slice p5b g.addr.length k5b, .slice p6b g.dat.length k6b, .slice p7b g.ctrl.length k7b⟩ g W2 HU2.out (HF.out.step HB2.out) (HT.out.step' HB2.out))
 unfold GrV.val at D2
 dsimp only at D2
 have d0b : W2.cell? ⟨nb, 0, none⟩ = some (.int .i64 g.cells) := (HGb.out).cell rfl
 have d1b : W2.cell? ⟨nb, 1, none⟩ = some (.slice p1b g.evs.length k1b) := (HGb.out).cell rfl
 have d2b : W2.cell? ⟨nb, 2, none⟩ = some (.slice p2b g.rf.length k2b) := (HGb.out).cell rfl
 have d3b : W2.cell? ⟨nb, 3, none⟩ = some (.slice p3b g.co.length k3b) := (HGb.out).cell rfl
 have d4b : W2.cell? ⟨nb, 4, none⟩ = some (.slice p4b g.rmw.length k4b) := (HGb.out).cell rfl
 have d5b : W2.cell? ⟨nb, 5, none⟩ = some (.slice p5b g.addr.length k5b) := (HGb.out).cell rfl
 have d6b : W2.cell? ⟨nb, 6, none⟩ = some (.slice p6b g.dat.length k6b) := (HGb.out).cell rfl
 have d7b : W2.cell? ⟨nb, 7, none⟩ = some (.slice p7b g.ctrl.length k7b) := (HGb.out).cell rfl
 go_wp2_with fail
 refine D2.out.mono ?_
 rintro e w3 ⟨ax, v, l, er, rfl, hans, hown, hB3⟩
 obtain ⟨oa, oc, rfl⟩ := Qaq hown
 clear D2
 clear d0b d1b d2b d3b d4b d5b d6b d7b
 have HW3 : Hid (Below W2.heap.size W2 w3) := hB3
 have HB3 : Hid (Below w.heap.size w w3) := Qaa HB2.out HB2.out.size hB3
 have HBY := Qa (QGv hown)
 have hlm : l.length ≤ 9223372036854775807 := QA2 hown
 have HLB := Qa (Qh hown)
 have HAN := Qa hans
 clear hans hown hB3
 have D3 := Qa (Qot ⟨.slice p1a g.evs.length k1a, .slice p2a g.rf.length k2a, .slice p3a g.co.length k3a, .slice p4a g.rmw.length k4a, .slice p5a g.addr.length k5a, .slice p6a g.dat.length k6a, .slice p7a g.ctrl.length k7a⟩ g w3 (HV.out.below HB3.out))
 unfold GrV.val at D3
 dsimp only at D3
 have d0a : w3.cell? ⟨w.heap.size, 0, none⟩ = some (.int .i64 g.cells) := (HGa.out.of_below HW3.out).cell rfl
 have d1a : w3.cell? ⟨w.heap.size, 1, none⟩ = some (.slice p1a g.evs.length k1a) := (HGa.out.of_below HW3.out).cell rfl
 have d2a : w3.cell? ⟨w.heap.size, 2, none⟩ = some (.slice p2a g.rf.length k2a) := (HGa.out.of_below HW3.out).cell rfl
 have d3a : w3.cell? ⟨w.heap.size, 3, none⟩ = some (.slice p3a g.co.length k3a) := (HGa.out.of_below HW3.out).cell rfl
 have d4a : w3.cell? ⟨w.heap.size, 4, none⟩ = some (.slice p4a g.rmw.length k4a) := (HGa.out.of_below HW3.out).cell rfl
 have d5a : w3.cell? ⟨w.heap.size, 5, none⟩ = some (.slice p5a g.addr.length k5a) := (HGa.out.of_below HW3.out).cell rfl
 have d6a : w3.cell? ⟨w.heap.size, 6, none⟩ = some (.slice p6a g.dat.length k6a) := (HGa.out.of_below HW3.out).cell rfl
 have d7a : w3.cell? ⟨w.heap.size, 7, none⟩ = some (.slice p7a g.ctrl.length k7a) := (HGa.out.of_below HW3.out).cell rfl
 go_wp2_with fail
 refine D3.out.mono ?_
 rintro e w4 ⟨ax', l', e', v', rfl, hown', href, hB4⟩
 clear D3
 clear d0a d1a d2a d3a d4a d5a d6a d7a
 obtain ⟨rfl, rfl, rfl⟩ := href ax l er HAN.out
 obtain ⟨ob, od, rfl⟩ := Qaq hown'
 have HRF := Qa href
 have HW4 : Hid (Below W2.heap.size W2 w4) := Qaa HW3.out HW3.out.size hB4
 have HBY4 := Qa (HBY.out.below hB4)
 have HLB4 := Qa (HLB.out.below hB4)
 have HOW4 := Qa hown'
 clear href hown' HBY HLB HAN hB4
 have D4 := Qa (Qg1 _ _ l l w4 HLB4.out (Qh HOW4.out) hlm)
 rw [decide_eq_true rfl] at D4
 have q1 : ((er : Int) != er) = false := by simp
 have q2 : ((ax : Int) != ax) = false := by simp
 go_wp2_with fail
 refine D4.out.mono ?_
 rintro e w5 ⟨rfl, hB5⟩
 have HW5 : Hid (Below W2.heap.size W2 w5) := Qaa HW4.out HW4.out.size hB5
 have HBY5 := Qa (HBY4.out.below hB5)
 have HOW5 := Qa (Qnk HOW4.out hB5)
 clear D4 HBY4 HLB4 HOW4 HW4 hB5 q1 q2
 go_wp2_with fail
 go_loopg [10] l.length (fun f i wr => ∃ k : Nat, i = .int .i64 ((k : Nat) : Int) ∧ k ≤ l.length ∧ Hid (k + f = l.length) ∧ Hid (Below W2.heap.size W2 wr) ∧ Hid (ByR W2 w3 wr oa l.length) ∧ Hid (wr.ownsRow w3.heap.size 3 1 (.slice ob l.length od) l.length (Qai l)))
 case atStart => exact ⟨0, rfl, Nat.zero_le _, Nat.zero_add _, HW5.out, HBY5.out, HOW5.out⟩
 case round =>
  clear HW5 HBY5 HOW5
  obtain ⟨k, rfl, hk, HKF, HW, HBY, HOW⟩ := hrel
  by_cases hlt : k < l.length
  ·obtain ⟨b, cur, rfl, hb1, hb2, hbk, hcs⟩ := HBY.out (by omega)
   obtain ⟨x, hx⟩ : ∃ x, cur[k]? = some x := ⟨_, Array.getElem?_eq_getElem (by omega)⟩
   have c0 := hbk.cell (j := k) hx
   have f0 := hbk.frozen k
   have K0 : (0 : Int) ≤ ((k : Nat) : Int) := by omega
   have K1 : ((k : Nat) : Int) < ((l.length : Nat) : Int) := by omega
   have ht : Touch b wr (wr.setCell ⟨b, k, none⟩ (.int .i64 (-1))) := (Touch.of_below (Below.refl _ wr)).set _
   have HW2 := Qa (HW.out.setCell (p := ⟨b, k, none⟩) hb1 (.int .i64 (-1)))
   have HBY2 : Hid (ByR W2 w3 (wr.setCell ⟨b, k, none⟩ (.int .i64 (-1))) (some ⟨b, 0, none⟩) l.length) := fun _ => ⟨b, _, rfl, hb1, hb2, hbk.set k _, by rw [Array.size_setIfInBounds]; exact hcs⟩
   have HOW2 := Qa (Qym HOW.out hb2 ht)
   clear ht hbk hcs HBY HOW HW hx
   go_wp2_with fail
   go_roundg (l.length - (k + 1))
   case measure => have := HKF.out; omega
   case rel => exact ⟨k + 1, by go_num, by omega, by have := HKF.out; rw [Hid]; omega, HW2.out, HBY2.out, HOW2.out⟩
  ·have HBw := Qa (Qaa HB2.out HB2.out.size HW.out)
   have D5 := Qa (Qg2 ⟨.slice p1b g.evs.length k1b, .slice p2b g.rf.length k2b, .slice p3b g.co.length k3b, .slice p4b g.rmw.length k4b, .slice p5b g.addr.length k5b, .slice p6b g.dat.length k6b, .slice p7b g.ctrl.length k7b⟩ g wr (HU2.out.below HW.out) (HF.out.step HBw.out) (HT.out.step' HBw.out))
   unfold GrV.val at D5
   dsimp only at D5
   have d0b : wr.cell? ⟨nb, 0, none⟩ = some (.int .i64 g.cells) := (HGb.out.of_below HW.out).cell rfl
   have d1b : wr.cell? ⟨nb, 1, none⟩ = some (.slice p1b g.evs.length k1b) := (HGb.out.of_below HW.out).cell rfl
   have d2b : wr.cell? ⟨nb, 2, none⟩ = some (.slice p2b g.rf.length k2b) := (HGb.out.of_below HW.out).cell rfl
   have d3b : wr.cell? ⟨nb, 3, none⟩ = some (.slice p3b g.co.length k3b) := (HGb.out.of_below HW.out).cell rfl
   have d4b : wr.cell? ⟨nb, 4, none⟩ = some (.slice p4b g.rmw.length k4b) := (HGb.out.of_below HW.out).cell rfl
   have d5b : wr.cell? ⟨nb, 5, none⟩ = some (.slice p5b g.addr.length k5b) := (HGb.out.of_below HW.out).cell rfl
   have d6b : wr.cell? ⟨nb, 6, none⟩ = some (.slice p6b g.dat.length k6b) := (HGb.out.of_below HW.out).cell rfl
   have d7b : wr.cell? ⟨nb, 7, none⟩ = some (.slice p7b g.ctrl.length k7b) := (HGb.out.of_below HW.out).cell rfl
   go_wp2_with fail
   refine D5.out.mono ?_
   rintro e w7 ⟨ax2, v2, l2, er2, rfl, hans2, hown2, hB7⟩
   obtain ⟨rfl, rfl, rfl⟩ := HRF.out ax2 l2 er2 hans2
   obtain ⟨oe, of, rfl⟩ := Qaq hown2
   clear D5 hans2
   clear d0b d1b d2b d3b d4b d5b d6b d7b
   have HW7 := Qa (Qaa HW.out HW.out.size hB7)
   have HB7 := Qa (Qaa HBw.out HBw.out.size hB7)
   have D6 := Qa (Qg1 _ _ l2 l2 w7 (Qh hown2) (Qh (Qnk HOW.out hB7)) hlm)
   rw [decide_eq_true rfl] at D6
   clear hown2 hB7 HOW HBY HW HBw
   go_wp2_with fail
   refine D6.out.mono ?_
   rintro e w8 ⟨rfl, hB8⟩
   have HW8 := Qa (Qaa HW7.out HW7.out.size hB8)
   have HB8 := Qa (Qaa HB7.out HB7.out.size hB8)
   clear D6 hB8 HW7 HB7
   have D7 := Qa (Qqs ⟨.slice p1b g.evs.length k1b, .slice p2b g.rf.length k2b, .slice p3b g.co.length k3b, .slice p4b g.rmw.length k4b, .slice p5b g.addr.length k5b, .slice p6b g.dat.length k6b, .slice p7b g.ctrl.length k7b⟩ ⟨.slice p1a g.evs.length k1a, .slice p2a g.rf.length k2a, .slice p3a g.co.length k3a, .slice p4a g.rmw.length k4a, .slice p5a g.addr.length k5a, .slice p6a g.dat.length k6a, .slice p7a g.ctrl.length k7a⟩ g w8 (HU2.out.below HW8.out) (HV.out.below HB8.out))
   unfold GrV.val at D7
   dsimp only at D7
   have d0a : w8.cell? ⟨w.heap.size, 0, none⟩ = some (.int .i64 g.cells) := (HGa.out.of_below HW8.out).cell rfl
   have d1a : w8.cell? ⟨w.heap.size, 1, none⟩ = some (.slice p1a g.evs.length k1a) := (HGa.out.of_below HW8.out).cell rfl
   have d2a : w8.cell? ⟨w.heap.size, 2, none⟩ = some (.slice p2a g.rf.length k2a) := (HGa.out.of_below HW8.out).cell rfl
   have d3a : w8.cell? ⟨w.heap.size, 3, none⟩ = some (.slice p3a g.co.length k3a) := (HGa.out.of_below HW8.out).cell rfl
   have d4a : w8.cell? ⟨w.heap.size, 4, none⟩ = some (.slice p4a g.rmw.length k4a) := (HGa.out.of_below HW8.out).cell rfl
   have d5a : w8.cell? ⟨w.heap.size, 5, none⟩ = some (.slice p5a g.addr.length k5a) := (HGa.out.of_below HW8.out).cell rfl
   have d6a : w8.cell? ⟨w.heap.size, 6, none⟩ = some (.slice p6a g.dat.length k6a) := (HGa.out.of_below HW8.out).cell rfl
   have d7a : w8.cell? ⟨w.heap.size, 7, none⟩ = some (.slice p7a g.ctrl.length k7a) := (HGa.out.of_below HW8.out).cell rfl
   have d0b : w8.cell? ⟨nb, 0, none⟩ = some (.int .i64 g.cells) := (HGb.out.of_below HW8.out).cell rfl
   have d1b : w8.cell? ⟨nb, 1, none⟩ = some (.slice p1b g.evs.length k1b) := (HGb.out.of_below HW8.out).cell rfl
   have d2b : w8.cell? ⟨nb, 2, none⟩ = some (.slice p2b g.rf.length k2b) := (HGb.out.of_below HW8.out).cell rfl
   have d3b : w8.cell? ⟨nb, 3, none⟩ = some (.slice p3b g.co.length k3b) := (HGb.out.of_below HW8.out).cell rfl
   have d4b : w8.cell? ⟨nb, 4, none⟩ = some (.slice p4b g.rmw.length k4b) := (HGb.out.of_below HW8.out).cell rfl
   have d5b : w8.cell? ⟨nb, 5, none⟩ = some (.slice p5b g.addr.length k5b) := (HGb.out.of_below HW8.out).cell rfl
   have d6b : w8.cell? ⟨nb, 6, none⟩ = some (.slice p6b g.dat.length k6b) := (HGb.out.of_below HW8.out).cell rfl
   have d7b : w8.cell? ⟨nb, 7, none⟩ = some (.slice p7b g.ctrl.length k7b) := (HGb.out.of_below HW8.out).cell rfl
   go_wp2_with fail
   refine D7.out.mono ?_
   rintro e w9 ⟨rfl, hB9⟩
   have HB9 := Qa (Qaa HB8.out HB8.out.size hB9)
   have D8 := Qa (Qoj w9 (HF.out.step HB9.out) (HT.out.step' HB9.out))
   clear D7
   go_wp2_with fail
   refine D8.out.mono ?_
   rintro e w10 ⟨rfl, hB10⟩
   have HB10 := Qaa HB9.out HB9.out.size hB10
   go_wp2_with fail
   go_ret
   exact ⟨rfl, HB10⟩
end Go.Proofs.YthjjciimbfpokaaGreatDoor
