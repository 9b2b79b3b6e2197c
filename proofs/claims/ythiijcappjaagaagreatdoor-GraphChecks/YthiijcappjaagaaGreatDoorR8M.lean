/- GraphChecks' walk. (Printed by gr8m.py.) -/
import Derived.Test.YthiijcappjaagaaGreatDoorJ24
import Derived.Test.YthiijcappjaagaaGreatDoorJ23
import Derived.Test.YthiijcappjaagaaGreatDoorJ25
namespace Go.Proofs.YthiijcappjaagaaGreatDoor
open Go.RowKit Go.Shelf Sx
set_option linter.unusedSimpArgs false in
set_option maxRecDepth 100000 in
set_option maxHeartbeats 16000000 in
theorem GraphChecks_calls (V : GrV) (g : Gr) (w : World) (h : GrR w V g) (hb : GrB g) (hF : Frm w) (hT : Tab w) : Calls Tryz.prog 3 #[V.val g] w fun r w' => r = .returned (.bool true) ∧ Below w.heap.size w w' := by
  obtain ⟨Va1, Va2, Va3, Va4, Va5, Va6, Va7⟩ := V
  obtain ⟨p1a, k1a, e1a, _, _⟩ := h.ev
  obtain ⟨p2a, k2a, e2a, _, _⟩ := parg_form h.rf
  obtain ⟨p4a, k4a, e4a, _, _⟩ := parg_form h.rmw
  obtain ⟨p5a, k5a, e5a, _, _⟩ := parg_form h.addr
  obtain ⟨p6a, k6a, e6a, _, _⟩ := parg_form h.dat
  obtain ⟨p7a, k7a, e7a, _, _⟩ := parg_form h.ctrl
  obtain ⟨p3a, k3a, e3a, _, _⟩ := coarg_form h.co
  dsimp only at e1a e2a e3a e4a e5a e6a e7a
  subst e1a
  subst e2a
  subst e3a
  subst e4a
  subst e5a
  subst e6a
  subst e7a
  have HV := hid_of h
  have HF := hid_of hF
  have HT := hid_of hT
  have HBG := hid_of hb
  have hG := Blk.new w 26 #[.int .i64 g.cells, .slice p1a g.evs.length k1a, .slice p2a g.rf.length k2a, .slice p3a g.co.length k3a, .slice p4a g.rmw.length k4a, .slice p5a g.addr.length k5a, .slice p6a g.dat.length k6a, .slice p7a g.ctrl.length k7a]
  have hB : Below w.heap.size w (w.alloc (.cells #[.int .i64 g.cells, .slice p1a g.evs.length k1a, .slice p2a g.rf.length k2a, .slice p3a g.co.length k3a, .slice p4a g.rmw.length k4a, .slice p5a g.addr.length k5a, .slice p6a g.dat.length k6a, .slice p7a g.ctrl.length k7a] 26)) := (Below.refl _ _).alloc (Nat.le_refl _) _
  unfold GrV.val
  dsimp only
  clear h hF hT hb
  go_enter Tryz.func3, Tryz.ntmps3
  go_upto_region 1 with fail
  have HB0 := hid_of hB
  have HG0 := hid_of hG
  generalize w.alloc (.cells #[.int .i64 g.cells, .slice p1a g.evs.length k1a, .slice p2a g.rf.length k2a, .slice p3a g.co.length k3a, .slice p4a g.rmw.length k4a, .slice p5a g.addr.length k5a, .slice p6a g.dat.length k6a, .slice p7a g.ctrl.length k7a] 26) = W0 at *
  clear hB
  have d0a : W0.cell? ⟨w.heap.size, 0, none⟩ = some (.int .i64 g.cells) := hG.cell rfl
  have d1a : W0.cell? ⟨w.heap.size, 1, none⟩ = some (.slice p1a g.evs.length k1a) := hG.cell rfl
  have d2a : W0.cell? ⟨w.heap.size, 2, none⟩ = some (.slice p2a g.rf.length k2a) := hG.cell rfl
  have d3a : W0.cell? ⟨w.heap.size, 3, none⟩ = some (.slice p3a g.co.length k3a) := hG.cell rfl
  have d4a : W0.cell? ⟨w.heap.size, 4, none⟩ = some (.slice p4a g.rmw.length k4a) := hG.cell rfl
  have d5a : W0.cell? ⟨w.heap.size, 5, none⟩ = some (.slice p5a g.addr.length k5a) := hG.cell rfl
  have d6a : W0.cell? ⟨w.heap.size, 6, none⟩ = some (.slice p6a g.dat.length k6a) := hG.cell rfl
  have d7a : W0.cell? ⟨w.heap.size, 7, none⟩ = some (.slice p7a g.ctrl.length k7a) := hG.cell rfl
  clear hG
  have D1 := hid_of (r8Copied_calls ⟨.slice p1a g.evs.length k1a, .slice p2a g.rf.length k2a, .slice p3a g.co.length k3a, .slice p4a g.rmw.length k4a, .slice p5a g.addr.length k5a, .slice p6a g.dat.length k6a, .slice p7a g.ctrl.length k7a⟩ g W0 (HV.out.below HB0.out) HBG.out)
  unfold GrV.val at D1
  dsimp only at D1
  go_wp2_with fail
  refine D1.out.mono ?_
  rintro e w1 ⟨U, rfl, hU, hB1⟩
  obtain ⟨Vb1, Vb2, Vb3, Vb4, Vb5, Vb6, Vb7⟩ := U
  obtain ⟨p1b, k1b, e1b, _, _⟩ := hU.ev
  obtain ⟨p2b, k2b, e2b, _, _⟩ := parg_form hU.rf
  obtain ⟨p4b, k4b, e4b, _, _⟩ := parg_form hU.rmw
  obtain ⟨p5b, k5b, e5b, _, _⟩ := parg_form hU.addr
  obtain ⟨p6b, k6b, e6b, _, _⟩ := parg_form hU.dat
  obtain ⟨p7b, k7b, e7b, _, _⟩ := parg_form hU.ctrl
  obtain ⟨p3b, k3b, e3b, _, _⟩ := coarg_form hU.co
  dsimp only at e1b e2b e3b e4b e5b e6b e7b
  subst e1b
  subst e2b
  subst e3b
  subst e4b
  subst e5b
  subst e6b
  subst e7b
  have HU := hid_of hU
  have HB1 : Hid (Below w.heap.size w w1) := below_step HB0.out HB0.out.size hB1
  have HG1 := hid_of (HG0.out.of_below hB1)
  clear hU hB1 d0a d1a d2a d3a d4a d5a d6a d7a
  dsimp only
  go_upto_region 3 with fail
  have hG2 := Blk.new w1 26 #[.int .i64 g.cells, .slice p1b g.evs.length k1b, .slice p2b g.rf.length k2b, .slice p3b g.co.length k3b, .slice p4b g.rmw.length k4b, .slice p5b g.addr.length k5b, .slice p6b g.dat.length k6b, .slice p7b g.ctrl.length k7b]
  have hB2 : Below w1.heap.size w1 (w1.alloc (.cells #[.int .i64 g.cells, .slice p1b g.evs.length k1b, .slice p2b g.rf.length k2b, .slice p3b g.co.length k3b, .slice p4b g.rmw.length k4b, .slice p5b g.addr.length k5b, .slice p6b g.dat.length k6b, .slice p7b g.ctrl.length k7b] 26)) := (Below.refl _ _).alloc (Nat.le_refl _) _
  have HGa := hid_of (HG1.out.of_below hB2)
  have HGb := hid_of hG2
  have HB2 : Hid (Below w.heap.size w (w1.alloc (.cells #[.int .i64 g.cells, .slice p1b g.evs.length k1b, .slice p2b g.rf.length k2b, .slice p3b g.co.length k3b, .slice p4b g.rmw.length k4b, .slice p5b g.addr.length k5b, .slice p6b g.dat.length k6b, .slice p7b g.ctrl.length k7b] 26))) := below_step HB1.out HB1.out.size hB2
  have HU2 := hid_of (HU.out.below hB2)
  clear hG2 hB2 HG1 HG0 HU
  generalize w1.alloc (.cells #[.int .i64 g.cells, .slice p1b g.evs.length k1b, .slice p2b g.rf.length k2b, .slice p3b g.co.length k3b, .slice p4b g.rmw.length k4b, .slice p5b g.addr.length k5b, .slice p6b g.dat.length k6b, .slice p7b g.ctrl.length k7b] 26) = W2 at *
  generalize w1.heap.size = nb at *
  go_loopg [4] 2 (fun f v4 wr => ∃ k : Nat, v4 = .int .i64 ((k : Nat) : Int) ∧ k ≤ 2 ∧ Hid (k + f = 2) ∧ Hid (Below W2.heap.size W2 wr))
  case atStart => exact ⟨0, rfl, by omega, rfl, Below.refl _ _⟩
  case round =>
    obtain ⟨k, rfl, hk, HKF, HW⟩ := hrel
    generalize hwx : wr = wx at *
    clear hwx
    have HBx : Hid (Below w.heap.size w wx) := below_step HB2.out HB2.out.size HW.out
    have d0a : wx.cell? ⟨w.heap.size, 0, none⟩ = some (.int .i64 g.cells) := (HGa.out.of_below HW.out).cell rfl
    have d1a : wx.cell? ⟨w.heap.size, 1, none⟩ = some (.slice p1a g.evs.length k1a) := (HGa.out.of_below HW.out).cell rfl
    have d2a : wx.cell? ⟨w.heap.size, 2, none⟩ = some (.slice p2a g.rf.length k2a) := (HGa.out.of_below HW.out).cell rfl
    have d3a : wx.cell? ⟨w.heap.size, 3, none⟩ = some (.slice p3a g.co.length k3a) := (HGa.out.of_below HW.out).cell rfl
    have d4a : wx.cell? ⟨w.heap.size, 4, none⟩ = some (.slice p4a g.rmw.length k4a) := (HGa.out.of_below HW.out).cell rfl
    have d5a : wx.cell? ⟨w.heap.size, 5, none⟩ = some (.slice p5a g.addr.length k5a) := (HGa.out.of_below HW.out).cell rfl
    have d6a : wx.cell? ⟨w.heap.size, 6, none⟩ = some (.slice p6a g.dat.length k6a) := (HGa.out.of_below HW.out).cell rfl
    have d7a : wx.cell? ⟨w.heap.size, 7, none⟩ = some (.slice p7a g.ctrl.length k7a) := (HGa.out.of_below HW.out).cell rfl
    have d0b : wx.cell? ⟨nb, 0, none⟩ = some (.int .i64 g.cells) := (HGb.out.of_below HW.out).cell rfl
    have d1b : wx.cell? ⟨nb, 1, none⟩ = some (.slice p1b g.evs.length k1b) := (HGb.out.of_below HW.out).cell rfl
    have d2b : wx.cell? ⟨nb, 2, none⟩ = some (.slice p2b g.rf.length k2b) := (HGb.out.of_below HW.out).cell rfl
    have d3b : wx.cell? ⟨nb, 3, none⟩ = some (.slice p3b g.co.length k3b) := (HGb.out.of_below HW.out).cell rfl
    have d4b : wx.cell? ⟨nb, 4, none⟩ = some (.slice p4b g.rmw.length k4b) := (HGb.out.of_below HW.out).cell rfl
    have d5b : wx.cell? ⟨nb, 5, none⟩ = some (.slice p5b g.addr.length k5b) := (HGb.out.of_below HW.out).cell rfl
    have d6b : wx.cell? ⟨nb, 6, none⟩ = some (.slice p6b g.dat.length k6b) := (HGb.out.of_below HW.out).cell rfl
    have d7b : wx.cell? ⟨nb, 7, none⟩ = some (.slice p7b g.ctrl.length k7b) := (HGb.out.of_below HW.out).cell rfl
    have HVx := hid_of (HV.out.below HBx.out)
    have HUx := hid_of (HU2.out.below HW.out)
    obtain rfl | rfl | rfl : k = 0 ∨ k = 1 ∨ k = 2 := by omega
    · have D2 := hid_of (gCheck_calls ⟨.slice p1b g.evs.length k1b, .slice p2b g.rf.length k2b, .slice p3b g.co.length k3b, .slice p4b g.rmw.length k4b, .slice p5b g.addr.length k5b, .slice p6b g.dat.length k6b, .slice p7b g.ctrl.length k7b⟩ g false wx HUx.out (HF.out.step HBx.out))
      unfold GrV.val at D2
      dsimp only at D2
      obtain ⟨x, hx⟩ : ∃ x, (chk g false).1 = x := ⟨_, rfl⟩
      obtain ⟨y, hy⟩ : ∃ y, (chk g false).2 = y := ⟨_, rfl⟩
      rw [hx, hy] at D2
      have HX := hid_of hx
      have HY := hid_of hy
      clear hx hy
      go_wp2_with fail
      refine D2.out.mono ?_
      rintro e w3 ⟨rfl, hB3⟩
      clear d0a d0b d1a d1b d2a d2b d3a d3b d4a d4b d5a d5b d6a d6b d7a d7b
      have HW3 : Hid (Below W2.heap.size W2 w3) := below_step HW.out HW.out.size hB3
      have HB3 : Hid (Below w.heap.size w w3) := below_step HBx.out HBx.out.size hB3
      have d0a : w3.cell? ⟨w.heap.size, 0, none⟩ = some (.int .i64 g.cells) := (HGa.out.of_below HW3.out).cell rfl
      have d1a : w3.cell? ⟨w.heap.size, 1, none⟩ = some (.slice p1a g.evs.length k1a) := (HGa.out.of_below HW3.out).cell rfl
      have d2a : w3.cell? ⟨w.heap.size, 2, none⟩ = some (.slice p2a g.rf.length k2a) := (HGa.out.of_below HW3.out).cell rfl
      have d3a : w3.cell? ⟨w.heap.size, 3, none⟩ = some (.slice p3a g.co.length k3a) := (HGa.out.of_below HW3.out).cell rfl
      have d4a : w3.cell? ⟨w.heap.size, 4, none⟩ = some (.slice p4a g.rmw.length k4a) := (HGa.out.of_below HW3.out).cell rfl
      have d5a : w3.cell? ⟨w.heap.size, 5, none⟩ = some (.slice p5a g.addr.length k5a) := (HGa.out.of_below HW3.out).cell rfl
      have d6a : w3.cell? ⟨w.heap.size, 6, none⟩ = some (.slice p6a g.dat.length k6a) := (HGa.out.of_below HW3.out).cell rfl
      have d7a : w3.cell? ⟨w.heap.size, 7, none⟩ = some (.slice p7a g.ctrl.length k7a) := (HGa.out.of_below HW3.out).cell rfl
      have D3 := hid_of (r8Check_calls ⟨.slice p1a g.evs.length k1a, .slice p2a g.rf.length k2a, .slice p3a g.co.length k3a, .slice p4a g.rmw.length k4a, .slice p5a g.addr.length k5a, .slice p6a g.dat.length k6a, .slice p7a g.ctrl.length k7a⟩ g false w3 (HV.out.below HB3.out))
      unfold GrV.val at D3
      dsimp only at D3
      rw [HX.out, HY.out] at D3
      go_wp2_with fail
      refine D3.out.mono ?_
      rintro e w4 ⟨rfl, hB4⟩
      have HW4 : Hid (Below W2.heap.size W2 w4) := below_step HW3.out HW3.out.size hB4
      have qx : ((x : Int) != x) = false := by simp
      have qy : ((y : Int) != y) = false := by simp
      go_wp2_with fail
      go_roundg (2 - (0 + 1))
      case measure => have := HKF.out; omega
      case rel => exact ⟨0 + 1, by go_num, by omega, by have := HKF.out; unfold Hid; omega, HW4.out⟩
    · have D2 := hid_of (gCheck_calls ⟨.slice p1b g.evs.length k1b, .slice p2b g.rf.length k2b, .slice p3b g.co.length k3b, .slice p4b g.rmw.length k4b, .slice p5b g.addr.length k5b, .slice p6b g.dat.length k6b, .slice p7b g.ctrl.length k7b⟩ g true wx HUx.out (HF.out.step HBx.out))
      unfold GrV.val at D2
      dsimp only at D2
      obtain ⟨x, hx⟩ : ∃ x, (chk g true).1 = x := ⟨_, rfl⟩
      obtain ⟨y, hy⟩ : ∃ y, (chk g true).2 = y := ⟨_, rfl⟩
      rw [hx, hy] at D2
      have HX := hid_of hx
      have HY := hid_of hy
      clear hx hy
      go_wp2_with fail
      refine D2.out.mono ?_
      rintro e w3 ⟨rfl, hB3⟩
      clear d0a d0b d1a d1b d2a d2b d3a d3b d4a d4b d5a d5b d6a d6b d7a d7b
      have HW3 : Hid (Below W2.heap.size W2 w3) := below_step HW.out HW.out.size hB3
      have HB3 : Hid (Below w.heap.size w w3) := below_step HBx.out HBx.out.size hB3
      have d0a : w3.cell? ⟨w.heap.size, 0, none⟩ = some (.int .i64 g.cells) := (HGa.out.of_below HW3.out).cell rfl
      have d1a : w3.cell? ⟨w.heap.size, 1, none⟩ = some (.slice p1a g.evs.length k1a) := (HGa.out.of_below HW3.out).cell rfl
      have d2a : w3.cell? ⟨w.heap.size, 2, none⟩ = some (.slice p2a g.rf.length k2a) := (HGa.out.of_below HW3.out).cell rfl
      have d3a : w3.cell? ⟨w.heap.size, 3, none⟩ = some (.slice p3a g.co.length k3a) := (HGa.out.of_below HW3.out).cell rfl
      have d4a : w3.cell? ⟨w.heap.size, 4, none⟩ = some (.slice p4a g.rmw.length k4a) := (HGa.out.of_below HW3.out).cell rfl
      have d5a : w3.cell? ⟨w.heap.size, 5, none⟩ = some (.slice p5a g.addr.length k5a) := (HGa.out.of_below HW3.out).cell rfl
      have d6a : w3.cell? ⟨w.heap.size, 6, none⟩ = some (.slice p6a g.dat.length k6a) := (HGa.out.of_below HW3.out).cell rfl
      have d7a : w3.cell? ⟨w.heap.size, 7, none⟩ = some (.slice p7a g.ctrl.length k7a) := (HGa.out.of_below HW3.out).cell rfl
      have D3 := hid_of (r8Check_calls ⟨.slice p1a g.evs.length k1a, .slice p2a g.rf.length k2a, .slice p3a g.co.length k3a, .slice p4a g.rmw.length k4a, .slice p5a g.addr.length k5a, .slice p6a g.dat.length k6a, .slice p7a g.ctrl.length k7a⟩ g true w3 (HV.out.below HB3.out))
      unfold GrV.val at D3
      dsimp only at D3
      rw [HX.out, HY.out] at D3
      go_wp2_with fail
      refine D3.out.mono ?_
      rintro e w4 ⟨rfl, hB4⟩
      have HW4 : Hid (Below W2.heap.size W2 w4) := below_step HW3.out HW3.out.size hB4
      have qx : ((x : Int) != x) = false := by simp
      have qy : ((y : Int) != y) = false := by simp
      go_wp2_with fail
      go_roundg (2 - (1 + 1))
      case measure => have := HKF.out; omega
      case rel => exact ⟨1 + 1, by go_num, by omega, by have := HKF.out; unfold Hid; omega, HW4.out⟩
    · have D5 := hid_of (r8Alike_calls ⟨.slice p1b g.evs.length k1b, .slice p2b g.rf.length k2b, .slice p3b g.co.length k3b, .slice p4b g.rmw.length k4b, .slice p5b g.addr.length k5b, .slice p6b g.dat.length k6b, .slice p7b g.ctrl.length k7b⟩ ⟨.slice p1a g.evs.length k1a, .slice p2a g.rf.length k2a, .slice p3a g.co.length k3a, .slice p4a g.rmw.length k4a, .slice p5a g.addr.length k5a, .slice p6a g.dat.length k6a, .slice p7a g.ctrl.length k7a⟩ g wx HUx.out HVx.out)
      unfold GrV.val at D5
      dsimp only at D5
      go_wp2_with fail
      refine D5.out.mono ?_
      rintro e w5 ⟨rfl, hB5⟩
      have D6 := hid_of (lives_calls w5 (HF.out.step (below_step HBx.out HBx.out.size hB5)) (HT.out.step (below_step HBx.out HBx.out.size hB5)))
      go_wp2_with fail
      refine D6.out.mono ?_
      rintro e w6 ⟨rfl, hB6⟩
      have hB7 : Below w.heap.size w w5 := below_step HBx.out HBx.out.size hB5
      have hB8 : Below w.heap.size w w6 := below_step hB7 hB7.size hB6
      go_wp2_with fail
      go_ret
      exact ⟨rfl, hB8⟩
end Go.Proofs.YthiijcappjaagaaGreatDoor
