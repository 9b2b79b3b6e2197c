/- GraphDerives' walk. (Printed by gr8x.py.) -/
import Derived.Test.YthiijcappjaagaaGreatDoorJ25
import Derived.Test.YthiijcappjaagaaGreatDoorJ26
import Derived.Test.YthiijcappjaagaaGreatDoorJ27
import Derived.Test.YthiijcappjaagaaGreatDoorJ23
namespace Go.Proofs.YthiijcappjaagaaGreatDoor
open Go.RowKit Go.Shelf Sx
set_option linter.unusedSimpArgs false in
set_option linter.unusedVariables false in
set_option maxRecDepth 100000 in
set_option maxHeartbeats 16000000 in
theorem GraphDerives_calls (V : GrV) (g : Gr) (w : World) (h : GrR w V g) (hb : GrB g) (hF : Frm w) (hT : Tab w) : Calls Tryz.prog 4 #[V.val g] w fun r w' => r = .returned (.bool true) ∧ Below w.heap.size w w' := by
  obtain ⟨Va1, Va2, Va3, Va4, Va5, Va6, Va7⟩ := V
  obtain ⟨p1a, k1a, e1a, _, _⟩ := h.ev
  obtain ⟨p2a, k2a, e2a, _, _⟩ := parg_form h.rf
  obtain ⟨p4a, k4a, e4a, _, _⟩ := parg_form h.rmw
  obtain ⟨p5a, k5a, e5a, _, _⟩ := parg_form h.addr
  obtain ⟨p6a, k6a, e6a, _, _⟩ := parg_form h.dat
  obtain ⟨p7a, k7a, e7a, _, _⟩ := parg_form h.ctrl
  obtain ⟨p3a, k3a, e3a, _, _⟩ := coarg_form h.co
  dsimp only at e1a e2a e3a e4a e5a e6a e7a
  subst e1a
  subst e2a
  subst e3a
  subst e4a
  subst e5a
  subst e6a
  subst e7a
  have HV := hid_of h
  have HF := hid_of hF
  have HT := hid_of hT
  have HBG := hid_of hb
  have hG := Blk.new w 26 #[.int .i64 g.cells, .slice p1a g.evs.length k1a, .slice p2a g.rf.length k2a, .slice p3a g.co.length k3a, .slice p4a g.rmw.length k4a, .slice p5a g.addr.length k5a, .slice p6a g.dat.length k6a, .slice p7a g.ctrl.length k7a]
  have hB : Below w.heap.size w (w.alloc (.cells #[.int .i64 g.cells, .slice p1a g.evs.length k1a, .slice p2a g.rf.length k2a, .slice p3a g.co.length k3a, .slice p4a g.rmw.length k4a, .slice p5a g.addr.length k5a, .slice p6a g.dat.length k6a, .slice p7a g.ctrl.length k7a] 26)) := (Below.refl _ _).alloc (Nat.le_refl _) _
  unfold GrV.val
  dsimp only
  clear h hF hT hb
  go_enter Tryz.func4, Tryz.ntmps4
  go_upto_region 1 with fail
  have HB0 := hid_of hB
  have HG0 := hid_of hG
  generalize w.alloc (.cells #[.int .i64 g.cells, .slice p1a g.evs.length k1a, .slice p2a g.rf.length k2a, .slice p3a g.co.length k3a, .slice p4a g.rmw.length k4a, .slice p5a g.addr.length k5a, .slice p6a g.dat.length k6a, .slice p7a g.ctrl.length k7a] 26) = W0 at *
  clear hB hG
  have d0a : W0.cell? ⟨w.heap.size, 0, none⟩ = some (.int .i64 g.cells) := (HG0.out).cell rfl
  have d1a : W0.cell? ⟨w.heap.size, 1, none⟩ = some (.slice p1a g.evs.length k1a) := (HG0.out).cell rfl
  have d2a : W0.cell? ⟨w.heap.size, 2, none⟩ = some (.slice p2a g.rf.length k2a) := (HG0.out).cell rfl
  have d3a : W0.cell? ⟨w.heap.size, 3, none⟩ = some (.slice p3a g.co.length k3a) := (HG0.out).cell rfl
  have d4a : W0.cell? ⟨w.heap.size, 4, none⟩ = some (.slice p4a g.rmw.length k4a) := (HG0.out).cell rfl
  have d5a : W0.cell? ⟨w.heap.size, 5, none⟩ = some (.slice p5a g.addr.length k5a) := (HG0.out).cell rfl
  have d6a : W0.cell? ⟨w.heap.size, 6, none⟩ = some (.slice p6a g.dat.length k6a) := (HG0.out).cell rfl
  have d7a : W0.cell? ⟨w.heap.size, 7, none⟩ = some (.slice p7a g.ctrl.length k7a) := (HG0.out).cell rfl
  have D1 := hid_of (r8Copied_calls ⟨.slice p1a g.evs.length k1a, .slice p2a g.rf.length k2a, .slice p3a g.co.length k3a, .slice p4a g.rmw.length k4a, .slice p5a g.addr.length k5a, .slice p6a g.dat.length k6a, .slice p7a g.ctrl.length k7a⟩ g W0 (HV.out.below HB0.out) HBG.out)
  unfold GrV.val at D1
  dsimp only at D1
  go_wp2_with fail
  refine D1.out.mono ?_
  rintro e w1 ⟨U, rfl, hU, hB1⟩
  obtain ⟨Vb1, Vb2, Vb3, Vb4, Vb5, Vb6, Vb7⟩ := U
  obtain ⟨p1b, k1b, e1b, _, _⟩ := hU.ev
  obtain ⟨p2b, k2b, e2b, _, _⟩ := parg_form hU.rf
  obtain ⟨p4b, k4b, e4b, _, _⟩ := parg_form hU.rmw
  obtain ⟨p5b, k5b, e5b, _, _⟩ := parg_form hU.addr
  obtain ⟨p6b, k6b, e6b, _, _⟩ := parg_form hU.dat
  obtain ⟨p7b, k7b, e7b, _, _⟩ := parg_form hU.ctrl
  obtain ⟨p3b, k3b, e3b, _, _⟩ := coarg_form hU.co
  dsimp only at e1b e2b e3b e4b e5b e6b e7b
  subst e1b
  subst e2b
  subst e3b
  subst e4b
  subst e5b
  subst e6b
  subst e7b
  have HU := hid_of hU
  have HB1 : Hid (Below w.heap.size w w1) := below_step HB0.out HB0.out.size hB1
  have HG1 := hid_of (HG0.out.of_below hB1)
  clear hU hB1 D1
  clear d0a d1a d2a d3a d4a d5a d6a d7a
  dsimp only
  go_upto_region 2 with fail
  have hG2 := Blk.new w1 26 #[.int .i64 g.cells, .slice p1b g.evs.length k1b, .slice p2b g.rf.length k2b, .slice p3b g.co.length k3b, .slice p4b g.rmw.length k4b, .slice p5b g.addr.length k5b, .slice p6b g.dat.length k6b, .slice p7b g.ctrl.length k7b]
  have hB2 : Below w1.heap.size w1 (w1.alloc (.cells #[.int .i64 g.cells, .slice p1b g.evs.length k1b, .slice p2b g.rf.length k2b, .slice p3b g.co.length k3b, .slice p4b g.rmw.length k4b, .slice p5b g.addr.length k5b, .slice p6b g.dat.length k6b, .slice p7b g.ctrl.length k7b] 26)) := (Below.refl _ _).alloc (Nat.le_refl _) _
  have HGa := hid_of (HG1.out.of_below hB2)
  have HGb := hid_of hG2
  have HB2 : Hid (Below w.heap.size w (w1.alloc (.cells #[.int .i64 g.cells, .slice p1b g.evs.length k1b, .slice p2b g.rf.length k2b, .slice p3b g.co.length k3b, .slice p4b g.rmw.length k4b, .slice p5b g.addr.length k5b, .slice p6b g.dat.length k6b, .slice p7b g.ctrl.length k7b] 26))) := below_step HB1.out HB1.out.size hB2
  have HU2 := hid_of (HU.out.below hB2)
  clear hG2 hB2 HG1 HG0 HU HBG HB0 HB1
  generalize w1.alloc (.cells #[.int .i64 g.cells, .slice p1b g.evs.length k1b, .slice p2b g.rf.length k2b, .slice p3b g.co.length k3b, .slice p4b g.rmw.length k4b, .slice p5b g.addr.length k5b, .slice p6b g.dat.length k6b, .slice p7b g.ctrl.length k7b] 26) = W2 at *
  generalize w1.heap.size = nb at *
  have HWW2 : Hid (Below W2.heap.size W2 W2) := Below.refl _ _
  have d0b : W2.cell? ⟨nb, 0, none⟩ = some (.int .i64 g.cells) := (HGb.out).cell rfl
  have d1b : W2.cell? ⟨nb, 1, none⟩ = some (.slice p1b g.evs.length k1b) := (HGb.out).cell rfl
  have d2b : W2.cell? ⟨nb, 2, none⟩ = some (.slice p2b g.rf.length k2b) := (HGb.out).cell rfl
  have d3b : W2.cell? ⟨nb, 3, none⟩ = some (.slice p3b g.co.length k3b) := (HGb.out).cell rfl
  have d4b : W2.cell? ⟨nb, 4, none⟩ = some (.slice p4b g.rmw.length k4b) := (HGb.out).cell rfl
  have d5b : W2.cell? ⟨nb, 5, none⟩ = some (.slice p5b g.addr.length k5b) := (HGb.out).cell rfl
  have d6b : W2.cell? ⟨nb, 6, none⟩ = some (.slice p6b g.dat.length k6b) := (HGb.out).cell rfl
  have d7b : W2.cell? ⟨nb, 7, none⟩ = some (.slice p7b g.ctrl.length k7b) := (HGb.out).cell rfl
  have D3 := hid_of (gDerive_calls ⟨.slice p1b g.evs.length k1b, .slice p2b g.rf.length k2b, .slice p3b g.co.length k3b, .slice p4b g.rmw.length k4b, .slice p5b g.addr.length k5b, .slice p6b g.dat.length k6b, .slice p7b g.ctrl.length k7b⟩ g W2 (HU2.out.below HWW2.out) (HF.out.step HB2.out) (HT.out.step' HB2.out))
  unfold GrV.val at D3
  dsimp only at D3
  go_wp2_with fail
  refine D3.out.mono ?_
  rintro e w3 hR3
  clear D3
  clear d0b d1b d2b d3b d4b d5b d6b d7b
  cases hq : wfB g
  · obtain ⟨h1, _⟩ | ⟨_, rfl, hB3⟩ := hR3
    · rw [hq] at h1; cases h1
    have HWw3 : Hid (Below W2.heap.size W2 w3) := below_step HWW2.out HWW2.out.size hB3
    have HBw3 : Hid (Below w.heap.size w w3) := below_step HB2.out HB2.out.size HWw3.out
    clear hB3
    have hz := Blk.new w3 36 nilF
    have hBz : Below w3.heap.size w3 ((w3.alloc (.cells nilF 36)).setRow w3.heap.size nilF) := ((Below.refl w3.heap.size w3).alloc (Nat.le_refl _) _).trans (below_row _ (Nat.le_refl _))
    have HFA4 := hid_of (hz.setRow' nilF)
    have HSW4 : Hid (((w3.alloc (.cells nilF 36)).setRow w3.heap.size nilF).heap.size = w3.heap.size + 1) := by rw [Hid, setRow_size]; simp
    go_upto_region 3 with (first | refine wpList_store_row rfl 36 _ _ rfl w3.heap.size nilF rfl rfl 36 nilF hz (by kernel_rfl) rfl (by kernel_rfl) ?_)
    generalize (w3.alloc (.cells nilF 36)).setRow w3.heap.size nilF = W4 at *
    have HWW4 : Hid (Below W2.heap.size W2 W4) := below_step HWw3.out HWw3.out.size hBz
    have HBW4 : Hid (Below w.heap.size w W4) := below_step HB2.out HB2.out.size HWW4.out
    clear hz hBz HSW4
    generalize w3.heap.size = fa at *
    have d0b : W4.cell? ⟨nb, 0, none⟩ = some (.int .i64 g.cells) := (HGb.out.of_below HWW4.out).cell rfl
    have d1b : W4.cell? ⟨nb, 1, none⟩ = some (.slice p1b g.evs.length k1b) := (HGb.out.of_below HWW4.out).cell rfl
    have d2b : W4.cell? ⟨nb, 2, none⟩ = some (.slice p2b g.rf.length k2b) := (HGb.out.of_below HWW4.out).cell rfl
    have d3b : W4.cell? ⟨nb, 3, none⟩ = some (.slice p3b g.co.length k3b) := (HGb.out.of_below HWW4.out).cell rfl
    have d4b : W4.cell? ⟨nb, 4, none⟩ = some (.slice p4b g.rmw.length k4b) := (HGb.out.of_below HWW4.out).cell rfl
    have d5b : W4.cell? ⟨nb, 5, none⟩ = some (.slice p5b g.addr.length k5b) := (HGb.out.of_below HWW4.out).cell rfl
    have d6b : W4.cell? ⟨nb, 6, none⟩ = some (.slice p6b g.dat.length k6b) := (HGb.out.of_below HWW4.out).cell rfl
    have d7b : W4.cell? ⟨nb, 7, none⟩ = some (.slice p7b g.ctrl.length k7b) := (HGb.out.of_below HWW4.out).cell rfl
    have D5 := hid_of (gDerive_calls ⟨.slice p1b g.evs.length k1b, .slice p2b g.rf.length k2b, .slice p3b g.co.length k3b, .slice p4b g.rmw.length k4b, .slice p5b g.addr.length k5b, .slice p6b g.dat.length k6b, .slice p7b g.ctrl.length k7b⟩ g W4 (HU2.out.below HWW4.out) (HF.out.step HBW4.out) (HT.out.step' HBW4.out))
    unfold GrV.val at D5
    dsimp only at D5
    go_wp2_with fail
    refine D5.out.mono ?_
    rintro e w5 hR5
    clear D5
    clear d0b d1b d2b d3b d4b d5b d6b d7b
    obtain ⟨h1, _⟩ | ⟨_, rfl, hB5⟩ := hR5
    · rw [hq] at h1; cases h1
    have HWw5 : Hid (Below W2.heap.size W2 w5) := below_step HWW4.out HWW4.out.size hB5
    have HBw5 : Hid (Below w.heap.size w w5) := below_step HB2.out HB2.out.size HWw5.out
    have HFA5 := hid_of (HFA4.out.of_below hB5)
    clear hB5 HFA4
    have hz := Blk.new w5 36 nilF
    have hBz : Below w5.heap.size w5 ((w5.alloc (.cells nilF 36)).setRow w5.heap.size nilF) := ((Below.refl w5.heap.size w5).alloc (Nat.le_refl _) _).trans (below_row _ (Nat.le_refl _))
    have HFB6 := hid_of (hz.setRow' nilF)
    have HSW6 : Hid (((w5.alloc (.cells nilF 36)).setRow w5.heap.size nilF).heap.size = w5.heap.size + 1) := by rw [Hid, setRow_size]; simp
    go_upto_region 4 with (first | refine wpList_store_row rfl 36 _ _ rfl w5.heap.size nilF rfl rfl 36 nilF hz (by kernel_rfl) rfl (by kernel_rfl) ?_)
    generalize (w5.alloc (.cells nilF 36)).setRow w5.heap.size nilF = W6 at *
    have HWW6 : Hid (Below W2.heap.size W2 W6) := below_step HWw5.out HWw5.out.size hBz
    have HBW6 : Hid (Below w.heap.size w W6) := below_step HB2.out HB2.out.size HWW6.out
    have HFA6 := hid_of (HFA5.out.of_below hBz)
    clear hz hBz HSW6 HFA5 HFB6
    generalize w5.heap.size = fb at *
    have d0a : W6.cell? ⟨w.heap.size, 0, none⟩ = some (.int .i64 g.cells) := (HGa.out.of_below HWW6.out).cell rfl
    have d1a : W6.cell? ⟨w.heap.size, 1, none⟩ = some (.slice p1a g.evs.length k1a) := (HGa.out.of_below HWW6.out).cell rfl
    have d2a : W6.cell? ⟨w.heap.size, 2, none⟩ = some (.slice p2a g.rf.length k2a) := (HGa.out.of_below HWW6.out).cell rfl
    have d3a : W6.cell? ⟨w.heap.size, 3, none⟩ = some (.slice p3a g.co.length k3a) := (HGa.out.of_below HWW6.out).cell rfl
    have d4a : W6.cell? ⟨w.heap.size, 4, none⟩ = some (.slice p4a g.rmw.length k4a) := (HGa.out.of_below HWW6.out).cell rfl
    have d5a : W6.cell? ⟨w.heap.size, 5, none⟩ = some (.slice p5a g.addr.length k5a) := (HGa.out.of_below HWW6.out).cell rfl
    have d6a : W6.cell? ⟨w.heap.size, 6, none⟩ = some (.slice p6a g.dat.length k6a) := (HGa.out.of_below HWW6.out).cell rfl
    have d7a : W6.cell? ⟨w.heap.size, 7, none⟩ = some (.slice p7a g.ctrl.length k7a) := (HGa.out.of_below HWW6.out).cell rfl
    have D7 := hid_of (r8Good_calls ⟨.slice p1a g.evs.length k1a, .slice p2a g.rf.length k2a, .slice p3a g.co.length k3a, .slice p4a g.rmw.length k4a, .slice p5a g.addr.length k5a, .slice p6a g.dat.length k6a, .slice p7a g.ctrl.length k7a⟩ g W6 (HV.out.below HBW6.out))
    unfold GrV.val at D7
    dsimp only at D7
    rw [hq] at D7
    go_wp2_with fail
    refine D7.out.mono ?_
    rintro e w7 ⟨rfl, hB7⟩
    clear D7
    clear d0a d1a d2a d3a d4a d5a d6a d7a
    have HWw7 : Hid (Below W2.heap.size W2 w7) := below_step HWW6.out HWW6.out.size hB7
    have HBw7 : Hid (Below w.heap.size w w7) := below_step HB2.out HB2.out.size HWw7.out
    have HFA7 := hid_of (HFA6.out.of_below hB7)
    clear hB7 HFA6
    have n0 : w7.cell? ⟨fa, 0, none⟩ = some (.pointer none) := HFA7.out.cell rfl
    have n1 : w7.cell? ⟨fa, 1, none⟩ = some (.pointer none) := HFA7.out.cell rfl
    have n9 : w7.cell? ⟨fa, 9, none⟩ = some (.pointer none) := HFA7.out.cell rfl
    have n10 : w7.cell? ⟨fa, 10, none⟩ = some (.slice none 0 0) := HFA7.out.cell rfl
    have D8 := hid_of (lives_calls w7 (HF.out.step HBw7.out) (HT.out.step HBw7.out))
    go_wp2_with fail
    refine D8.out.mono ?_
    rintro e w8 ⟨rfl, hB8⟩
    have HWw8 : Hid (Below W2.heap.size W2 w8) := below_step HWw7.out HWw7.out.size hB8
    have HBw8 : Hid (Below w.heap.size w w8) := below_step HB2.out HB2.out.size HWw8.out
    go_wp2_with fail
    go_ret
    exact ⟨rfl, HBw8.out⟩
  · obtain ⟨_, v, f, lo, rfl, hD, hB3⟩ | ⟨h1, _⟩ := hR3
    rotate_left
    · rw [hq] at h1; cases h1
    obtain ⟨qw, hqw⟩ := wf_some hq
    have HQW : Hid (Wf g qw) := hqw
    have hn256 := wf_len hq
    have HWw3 : Hid (Below W2.heap.size W2 w3) := below_step HWW2.out HWW2.out.size hB3
    have HBw3 : Hid (Below w.heap.size w w3) := below_step HB2.out HB2.out.size HWw3.out
    have HD3 := hid_of hD
    clear hB3 hD hqw
    have hall := outV_all HD3.out.res f HD3.out.fr.one
    have HLO : Hid (lo 13 ≤ w3.heap.size) := HD3.out.top
    have HN2 : Hid (W2.heap.size ≤ w3.heap.size) := HWw3.out.size
    have hz := Blk.new w3 36 nilF
    have hBz : Below w3.heap.size w3 ((w3.alloc (.cells nilF 36)).setRow w3.heap.size (outV v f)) := ((Below.refl w3.heap.size w3).alloc (Nat.le_refl _) _).trans (below_row _ (Nat.le_refl _))
    have HFA4 := hid_of (hz.setRow' (outV v f))
    have HSW4 : Hid (((w3.alloc (.cells nilF 36)).setRow w3.heap.size (outV v f)).heap.size = w3.heap.size + 1) := by rw [Hid, setRow_size]; simp
    go_upto_region 3 with (first | refine wpList_store_row rfl 36 _ _ rfl w3.heap.size (outV v f) rfl rfl 36 nilF hz (by kernel_rfl) rfl hall ?_)
    generalize (w3.alloc (.cells nilF 36)).setRow w3.heap.size (outV v f) = W4 at *
    have HWW4 : Hid (Below W2.heap.size W2 W4) := below_step HWw3.out HWw3.out.size hBz
    have HBW4 : Hid (Below w.heap.size w W4) := below_step HB2.out HB2.out.size HWW4.out
    have HD4 := hid_of (HD3.out.below hBz)
    clear hz hBz hall HD3
    generalize w3.heap.size = fa at *
    have d0b : W4.cell? ⟨nb, 0, none⟩ = some (.int .i64 g.cells) := (HGb.out.of_below HWW4.out).cell rfl
    have d1b : W4.cell? ⟨nb, 1, none⟩ = some (.slice p1b g.evs.length k1b) := (HGb.out.of_below HWW4.out).cell rfl
    have d2b : W4.cell? ⟨nb, 2, none⟩ = some (.slice p2b g.rf.length k2b) := (HGb.out.of_below HWW4.out).cell rfl
    have d3b : W4.cell? ⟨nb, 3, none⟩ = some (.slice p3b g.co.length k3b) := (HGb.out.of_below HWW4.out).cell rfl
    have d4b : W4.cell? ⟨nb, 4, none⟩ = some (.slice p4b g.rmw.length k4b) := (HGb.out.of_below HWW4.out).cell rfl
    have d5b : W4.cell? ⟨nb, 5, none⟩ = some (.slice p5b g.addr.length k5b) := (HGb.out.of_below HWW4.out).cell rfl
    have d6b : W4.cell? ⟨nb, 6, none⟩ = some (.slice p6b g.dat.length k6b) := (HGb.out.of_below HWW4.out).cell rfl
    have d7b : W4.cell? ⟨nb, 7, none⟩ = some (.slice p7b g.ctrl.length k7b) := (HGb.out.of_below HWW4.out).cell rfl
    have D5 := hid_of (gDerive_calls ⟨.slice p1b g.evs.length k1b, .slice p2b g.rf.length k2b, .slice p3b g.co.length k3b, .slice p4b g.rmw.length k4b, .slice p5b g.addr.length k5b, .slice p6b g.dat.length k6b, .slice p7b g.ctrl.length k7b⟩ g W4 (HU2.out.below HWW4.out) (HF.out.step HBW4.out) (HT.out.step' HBW4.out))
    unfold GrV.val at D5
    dsimp only at D5
    go_wp2_with fail
    refine D5.out.mono ?_
    rintro e w5 hR5
    clear D5
    clear d0b d1b d2b d3b d4b d5b d6b d7b
    obtain ⟨_, v2, f2, lo2, rfl, hD2, hB5⟩ | ⟨h1, _⟩ := hR5
    rotate_left
    · rw [hq] at h1; cases h1
    have HWw5 : Hid (Below W2.heap.size W2 w5) := below_step HWW4.out HWW4.out.size hB5
    have HBw5 : Hid (Below w.heap.size w w5) := below_step HB2.out HB2.out.size HWw5.out
    have HFA5 := hid_of (HFA4.out.of_below hB5)
    have HD5 := hid_of (HD4.out.below hB5)
    have HE5 := hid_of hD2
    have HN5 : Hid (W4.heap.size ≤ w5.heap.size) := hB5.size
    clear hB5 hD2 HFA4 HD4
    have hall := outV_all HE5.out.res f2 HE5.out.fr.one
    have hz := Blk.new w5 36 nilF
    have hBz : Below w5.heap.size w5 ((w5.alloc (.cells nilF 36)).setRow w5.heap.size (outV v2 f2)) := ((Below.refl w5.heap.size w5).alloc (Nat.le_refl _) _).trans (below_row _ (Nat.le_refl _))
    have HFB6 := hid_of (hz.setRow' (outV v2 f2))
    have HSW6 : Hid (((w5.alloc (.cells nilF 36)).setRow w5.heap.size (outV v2 f2)).heap.size = w5.heap.size + 1) := by rw [Hid, setRow_size]; simp
    go_upto_region 4 with (first | refine wpList_store_row rfl 36 _ _ rfl w5.heap.size (outV v2 f2) rfl rfl 36 nilF hz (by kernel_rfl) rfl hall ?_)
    generalize (w5.alloc (.cells nilF 36)).setRow w5.heap.size (outV v2 f2) = W6 at *
    have HWW6 : Hid (Below W2.heap.size W2 W6) := below_step HWw5.out HWw5.out.size hBz
    have HBW6 : Hid (Below w.heap.size w W6) := below_step HB2.out HB2.out.size HWW6.out
    have HFA6 := hid_of (HFA5.out.of_below hBz)
    have HD6 := hid_of (HD5.out.below hBz)
    have HE6 := hid_of (HE5.out.below hBz)
    clear hz hBz hall HFA5 HD5 HE5 HSW6
    generalize w5.heap.size = fb at *
    have d0a : W6.cell? ⟨w.heap.size, 0, none⟩ = some (.int .i64 g.cells) := (HGa.out.of_below HWW6.out).cell rfl
    have d1a : W6.cell? ⟨w.heap.size, 1, none⟩ = some (.slice p1a g.evs.length k1a) := (HGa.out.of_below HWW6.out).cell rfl
    have d2a : W6.cell? ⟨w.heap.size, 2, none⟩ = some (.slice p2a g.rf.length k2a) := (HGa.out.of_below HWW6.out).cell rfl
    have d3a : W6.cell? ⟨w.heap.size, 3, none⟩ = some (.slice p3a g.co.length k3a) := (HGa.out.of_below HWW6.out).cell rfl
    have d4a : W6.cell? ⟨w.heap.size, 4, none⟩ = some (.slice p4a g.rmw.length k4a) := (HGa.out.of_below HWW6.out).cell rfl
    have d5a : W6.cell? ⟨w.heap.size, 5, none⟩ = some (.slice p5a g.addr.length k5a) := (HGa.out.of_below HWW6.out).cell rfl
    have d6a : W6.cell? ⟨w.heap.size, 6, none⟩ = some (.slice p6a g.dat.length k6a) := (HGa.out.of_below HWW6.out).cell rfl
    have d7a : W6.cell? ⟨w.heap.size, 7, none⟩ = some (.slice p7a g.ctrl.length k7a) := (HGa.out.of_below HWW6.out).cell rfl
    have D7 := hid_of (r8Good_calls ⟨.slice p1a g.evs.length k1a, .slice p2a g.rf.length k2a, .slice p3a g.co.length k3a, .slice p4a g.rmw.length k4a, .slice p5a g.addr.length k5a, .slice p6a g.dat.length k6a, .slice p7a g.ctrl.length k7a⟩ g W6 (HV.out.below HBW6.out))
    unfold GrV.val at D7
    dsimp only at D7
    rw [hq] at D7
    go_wp2_with fail
    refine D7.out.mono ?_
    rintro e w7 ⟨rfl, hB7⟩
    clear D7 hq
    clear d0a d1a d2a d3a d4a d5a d6a d7a
    have HWw7 : Hid (Below W2.heap.size W2 w7) := below_step HWW6.out HWW6.out.size hB7
    have HBw7 : Hid (Below w.heap.size w w7) := below_step HB2.out HB2.out.size HWw7.out
    have HFA7 := hid_of (HFA6.out.of_below hB7)
    have HFB7 := hid_of (HFB6.out.of_below hB7)
    have HD7 := hid_of (HD6.out.below hB7)
    have HE7 := hid_of (HE6.out.below hB7)
    clear hB7 HFA6 HFB6 HD6 HE6
    obtain ⟨bs, cs, hten, htn, hcs⟩ := HD7.out.ten
    obtain ⟨br, bw, bf, er, ew, ef, hbr, hbw, hbf, hdis, hr13, hw13, hf13⟩ := HD7.out.sets
    have hfv : outV v f = #[pv (bs 0), pv (bs 1), pv (bs 2), pv (bs 3), pv (bs 4), pv (bs 5), pv (bs 6), pv (bs 7), pv (bs 8), pv (bs 9), .slice (some ⟨br, 0, none⟩) g.evs.length g.evs.length, .slice (some ⟨bw, 0, none⟩) g.evs.length g.evs.length, .slice (some ⟨bf, 0, none⟩) g.evs.length g.evs.length] := by unfold outV at htn ⊢; rw [er, ew, ef, show v 0 = pv (bs 0) from Option.some.inj (htn 0 (by omega)), show v 1 = pv (bs 1) from Option.some.inj (htn 1 (by omega)), show v 2 = pv (bs 2) from Option.some.inj (htn 2 (by omega)), show f = pv (bs 3) from Option.some.inj (htn 3 (by omega)), show v 3 = pv (bs 4) from Option.some.inj (htn 4 (by omega)), show v 4 = pv (bs 5) from Option.some.inj (htn 5 (by omega)), show v 5 = pv (bs 6) from Option.some.inj (htn 6 (by omega)), show v 6 = pv (bs 7) from Option.some.inj (htn 7 (by omega)), show v 7 = pv (bs 8) from Option.some.inj (htn 8 (by omega)), show v 8 = pv (bs 9) from Option.some.inj (htn 9 (by omega))]
    rw [hfv] at HFA7
    have c0 : w7.cell? ⟨fa, 0, none⟩ = some (pv (bs 0)) := HFA7.out.cell rfl
    have c1 : w7.cell? ⟨fa, 1, none⟩ = some (pv (bs 1)) := HFA7.out.cell rfl
    have c2 : w7.cell? ⟨fa, 2, none⟩ = some (pv (bs 2)) := HFA7.out.cell rfl
    have c3 : w7.cell? ⟨fa, 3, none⟩ = some (pv (bs 3)) := HFA7.out.cell rfl
    have c4 : w7.cell? ⟨fa, 4, none⟩ = some (pv (bs 4)) := HFA7.out.cell rfl
    have c5 : w7.cell? ⟨fa, 5, none⟩ = some (pv (bs 5)) := HFA7.out.cell rfl
    have c6 : w7.cell? ⟨fa, 6, none⟩ = some (pv (bs 6)) := HFA7.out.cell rfl
    have c7 : w7.cell? ⟨fa, 7, none⟩ = some (pv (bs 7)) := HFA7.out.cell rfl
    have c8 : w7.cell? ⟨fa, 8, none⟩ = some (pv (bs 8)) := HFA7.out.cell rfl
    have c9 : w7.cell? ⟨fa, 9, none⟩ = some (pv (bs 9)) := HFA7.out.cell rfl
    have c10 : w7.cell? ⟨fa, 10, none⟩ = some (.slice (some ⟨br, 0, none⟩) g.evs.length g.evs.length) := HFA7.out.cell rfl
    have c11 : w7.cell? ⟨fa, 11, none⟩ = some (.slice (some ⟨bw, 0, none⟩) g.evs.length g.evs.length) := HFA7.out.cell rfl
    have c12 : w7.cell? ⟨fa, 12, none⟩ = some (.slice (some ⟨bf, 0, none⟩) g.evs.length g.evs.length) := HFA7.out.cell rfl
    have HTEN := hid_of hten
    have HRWB := hid_of (And.intro hbr (And.intro hbw hbf))
    clear hten hbr hbw hbf
    have d0a : w7.cell? ⟨w.heap.size, 0, none⟩ = some (.int .i64 g.cells) := (HGa.out.of_below HWw7.out).cell rfl
    have d1a : w7.cell? ⟨w.heap.size, 1, none⟩ = some (.slice p1a g.evs.length k1a) := (HGa.out.of_below HWw7.out).cell rfl
    have d2a : w7.cell? ⟨w.heap.size, 2, none⟩ = some (.slice p2a g.rf.length k2a) := (HGa.out.of_below HWw7.out).cell rfl
    have d3a : w7.cell? ⟨w.heap.size, 3, none⟩ = some (.slice p3a g.co.length k3a) := (HGa.out.of_below HWw7.out).cell rfl
    have d4a : w7.cell? ⟨w.heap.size, 4, none⟩ = some (.slice p4a g.rmw.length k4a) := (HGa.out.of_below HWw7.out).cell rfl
    have d5a : w7.cell? ⟨w.heap.size, 5, none⟩ = some (.slice p5a g.addr.length k5a) := (HGa.out.of_below HWw7.out).cell rfl
    have d6a : w7.cell? ⟨w.heap.size, 6, none⟩ = some (.slice p6a g.dat.length k6a) := (HGa.out.of_below HWw7.out).cell rfl
    have d7a : w7.cell? ⟨w.heap.size, 7, none⟩ = some (.slice p7a g.ctrl.length k7a) := (HGa.out.of_below HWw7.out).cell rfl
    have D8 := hid_of (l8whole_calls ⟨.slice p1a g.evs.length k1a, .slice p2a g.rf.length k2a, .slice p3a g.co.length k3a, .slice p4a g.rmw.length k4a, .slice p5a g.addr.length k5a, .slice p6a g.dat.length k6a, .slice p7a g.ctrl.length k7a⟩ g qw W2.heap.size v f lo w7 (HV.out.below HBw7.out) HD7.out HQW.out hn256 (HT.out.step' HBw7.out))
    unfold GrV.val at D8
    dsimp only at D8
    rw [hfv] at D8
    clear hfv htn er ew ef
    go_wp2_with fail
    refine D8.out.mono ?_
    rintro e w8 ⟨rfl, hB8⟩
    clear D8 c0 c1 c2 c3 c4 c5 c6 c7 c8 c9 c10 c11 c12
    have HTEN8 := hid_of (HTEN.out.below hB8)
    have HRWB8 := hid_of (And.intro (HRWB.out.1.below hB8) (And.intro (HRWB.out.2.1.below hB8) (HRWB.out.2.2.below hB8)))
    clear HTEN HRWB
    clear d0a d1a d2a d3a d4a d5a d6a d7a
    have HWw8 : Hid (Below W2.heap.size W2 w8) := below_step HWw7.out HWw7.out.size hB8
    have HBw8 : Hid (Below w.heap.size w w8) := below_step HB2.out HB2.out.size HWw8.out
    have HFA8 := hid_of (HFA7.out.of_below hB8)
    have HFB8 := hid_of (HFB7.out.of_below hB8)
    have HD8 := hid_of (HD7.out.below hB8)
    have HE8 := hid_of (HE7.out.below hB8)
    clear hB8 HFA7 HFB7 HD7 HE7
    have c0 : w8.cell? ⟨fa, 0, none⟩ = some (pv (bs 0)) := HFA8.out.cell rfl
    have c1 : w8.cell? ⟨fa, 1, none⟩ = some (pv (bs 1)) := HFA8.out.cell rfl
    have c2 : w8.cell? ⟨fa, 2, none⟩ = some (pv (bs 2)) := HFA8.out.cell rfl
    have c3 : w8.cell? ⟨fa, 3, none⟩ = some (pv (bs 3)) := HFA8.out.cell rfl
    have c4 : w8.cell? ⟨fa, 4, none⟩ = some (pv (bs 4)) := HFA8.out.cell rfl
    have c5 : w8.cell? ⟨fa, 5, none⟩ = some (pv (bs 5)) := HFA8.out.cell rfl
    have c6 : w8.cell? ⟨fa, 6, none⟩ = some (pv (bs 6)) := HFA8.out.cell rfl
    have c7 : w8.cell? ⟨fa, 7, none⟩ = some (pv (bs 7)) := HFA8.out.cell rfl
    have c8 : w8.cell? ⟨fa, 8, none⟩ = some (pv (bs 8)) := HFA8.out.cell rfl
    have c9 : w8.cell? ⟨fa, 9, none⟩ = some (pv (bs 9)) := HFA8.out.cell rfl
    have hl0 := Blk.new w8 33 #[pv (bs 0), pv (bs 1), pv (bs 2), pv (bs 3), pv (bs 4), pv (bs 5), pv (bs 6), pv (bs 7), pv (bs 8), pv (bs 9)]
    have hBz : Below w8.heap.size w8 (w8.alloc (.cells #[pv (bs 0), pv (bs 1), pv (bs 2), pv (bs 3), pv (bs 4), pv (bs 5), pv (bs 6), pv (bs 7), pv (bs 8), pv (bs 9)] 33)) := (Below.refl _ _).alloc (Nat.le_refl _) _
    have HWW9 : Hid (Below W2.heap.size W2 (w8.alloc (.cells #[pv (bs 0), pv (bs 1), pv (bs 2), pv (bs 3), pv (bs 4), pv (bs 5), pv (bs 6), pv (bs 7), pv (bs 8), pv (bs 9)] 33))) := below_step HWw8.out HWw8.out.size hBz
    have HFA9 := hid_of (HFA8.out.of_below hBz)
    have HFB9 := hid_of (HFB8.out.of_below hBz)
    have HE9 := hid_of (HE8.out.below hBz)
    have HL9 := hid_of hl0
    have HS8 : Hid (fa ≤ fb ∧ fa ≤ w8.heap.size ∧ fa ≤ W4.heap.size) := by have h1 := HSW4.out; have h2 := HN5.out; have h3 := HFB8.out.lt; rw [Hid]; omega
    have HDV : Hid (Dv W2 (w8.alloc (.cells #[pv (bs 0), pv (bs 1), pv (bs 2), pv (bs 3), pv (bs 4), pv (bs 5), pv (bs 6), pv (bs 7), pv (bs 8), pv (bs 9)] 33)) fa g.evs.length br bw bf bs cs (w8.alloc (.cells #[pv (bs 0), pv (bs 1), pv (bs 2), pv (bs 3), pv (bs 4), pv (bs 5), pv (bs 6), pv (bs 7), pv (bs 8), pv (bs 9)] 33))) := ⟨⟨HWW9.out, Up.refl _ _, HRWB8.out.1.below hBz, HRWB8.out.2.1.below hBz, HRWB8.out.2.2.below hBz⟩, HTEN8.out.below hBz⟩
    have HCS : Hid (∀ i, i < 10 → W2.heap.size ≤ cs i ∧ cs i < fa) := fun i hi => ⟨(hcs i hi).1, Nat.lt_of_lt_of_le (hcs i hi).2 HLO.out⟩
    have HRWF : Hid ((W2.heap.size ≤ br ∧ br < fa) ∧ (W2.heap.size ≤ bw ∧ bw < fa) ∧ (W2.heap.size ≤ bf ∧ bf < fa)) := by have := HLO.out; rw [Hid]; omega
    have HDIS := hid_of hdis
    clear hcs hdis hr13 hw13 hf13 hl0 hBz HD8 HE8 HFA8 HFB8 HLO HN2 HN5 HSW4 HTEN8 HRWB8
    go_wp2_with fail
    clear c0 c1 c2 c3 c4 c5 c6 c7 c8 c9
    generalize w8.alloc (.cells #[pv (bs 0), pv (bs 1), pv (bs 2), pv (bs 3), pv (bs 4), pv (bs 5), pv (bs 6), pv (bs 7), pv (bs 8), pv (bs 9)] 33) = W9 at *
    generalize w8.heap.size = lb at *
    have HZL : Hid (∀ W, Up fa W9 W → ∀ i, i < 10 → W.cell? ⟨lb, i, none⟩ = some (pv (bs i))) := fun W hW i hi => (hW.blk HL9.out HS8.out.2.1).cell (ten_cells bs i hi)
    have HZF : Hid (∀ W, Up fa W9 W → Blk W fa 36 _) := fun W hW => hW.blk HFA9.out (Nat.le_refl _)
    go_loopg [9] 10 (fun fu v9 wr => ∃ i : Nat, v9 = .int .i64 ((i : Nat) : Int) ∧ i ≤ 10 ∧ Hid (i + fu = 10) ∧ Hid (Dv W2 W9 fa g.evs.length br bw bf bs cs wr))
    case atStart => exact ⟨0, rfl, Nat.zero_le _, Nat.zero_add _, HDV.out⟩
    case round =>
      clear HDV
      obtain ⟨i, rfl, hi0, HIF, HDA⟩ := hrel
      generalize hwq : wr = wa at *
      clear hwq
      by_cases hil : i < 10
      · have I0 : (0 : Int) ≤ ((i : Nat) : Int) := by omega
        have I1 : ((i : Nat) : Int) < 10 := by omega
        go_wp2_with fail
        go_loopg [10] g.evs.length (fun fu v10 wr => ∃ p : Nat, v10 = .int .i64 ((p : Nat) : Int) ∧ p ≤ g.evs.length ∧ Hid (p + fu = g.evs.length) ∧ Hid (Dv W2 W9 fa g.evs.length br bw bf bs cs wr))
        case atStart => exact ⟨0, rfl, Nat.zero_le _, Nat.zero_add _, HDA.out⟩
        case round =>
          clear HDA
          obtain ⟨p, rfl, hp0, HPF, HDB⟩ := hrel
          generalize hwq : wr = wb at *
          clear hwq
          obtain ⟨L, hL, hLn⟩ := HDB.out.ten.rel i hil
          have D := Len_calls (bs i) (cs i) L wb hL
          rw [hLn] at D
          have DL := hid_of D
          have HRL := hid_of hL
          have HLN := hid_of hLn
          have lc := HZL.out wb HDB.out.dw.up i hil
          clear D hL hLn
          by_cases hpl : p < g.evs.length
          · have P0 : (0 : Int) ≤ ((p : Nat) : Int) := by omega
            have P1 : ((p : Nat) : Int) < ((g.evs.length : Nat) : Int) := by omega
            go_wp2_with fail
            refine DL.out.mono ?_
            rintro e w20 ⟨rfl, hw20⟩
            obtain rfl : wb = w20 := hw20.symm
            clear DL
            go_upto_region 15 with fail
            clear lc
            have HDd : Hid (Dv W2 W9 fa g.evs.length br bw bf bs cs wb.drew) := HDB.out.step (Below.refl _ _).drew
            refine wp_region_held_drew (S := fun W => W.cell? ⟨lb, i, none⟩ = some (pv (bs i))) (by kernel_rfl) (HZL.out _ HDd.out.dw.up i hil) (fun hHeld => ?_)
            refine tk 0 rfl ?_; simp only [zz]
            refine tk 1 rfl ?_; simp only [zz]
            refine tk 2 rfl ?_; simp only [zz]
            refine tk 3 rfl ?_; simp only [zz]
            refine tk 4 rfl ?_; simp only [zz]
            refine tk 5 rfl ?_; simp only [zz]
            refine tk 6 rfl ?_; simp only [zz]
            refine tk 7 rfl ?_; simp only [zz]
            refine tk 8 rfl ?_; simp only [zz]
            refine tk 9 rfl ?_; simp only [zz]
            refine tk 10 rfl ?_; simp only [zz]
            refine tk 11 rfl ?_; simp only [zz]
            refine wpAnyH_ready (rs := [12]) (by kernel_rfl) (by simp) ?_
            refine AllReadyH.cons rfl (fun K hK => ?_) AllReadyH.nil
            simp only [z1, z2, z3]
            go_simp
            have D := Has_calls (bs i) (cs i) L ((p : Nat) : Int) ((p : Nat) : Int) _ (HRL.out.below (Below.refl _ _).drew)
            refine D.mono ?_
            rintro e a1 ⟨rfl, hBa1⟩
            have HDa := HDd.out.step hBa1
            have HRa := (HRL.out.below (Below.refl _ _).drew).below hBa1
            clear D
            refine hK.out _ _ (HZL.out _ HDa.dw.up i hil) (fun hHeld => ?_)
            clear hK K
            try simp only [zz]
            refine tk 13 rfl ?_; simp only [zz]
            refine wpAnyH_ready (rs := [14]) (by kernel_rfl) (by simp) ?_
            refine AllReadyH.cons rfl (fun K hK => ?_) AllReadyH.nil
            simp only [z1, z2, z3]
            go_simp
            have D := Put_calls (bs i) (cs i) L ((p : Nat) : Int) ((p : Nat) : Int) (!hasP L ((p : Nat) : Int) ((p : Nat) : Int)) _ HRa
            refine D.mono ?_
            rintro e a2 ⟨rfl, hr2, ht2⟩
            have HDc := HDa.put hil HRa hr2 (by rw [putP_length]; exact HLN.out) ht2 (HCS.out i hil).1 (HCS.out i hil).2
            clear D
            refine hK.out _ _ (HZL.out _ HDc.dw.up i hil) (fun hHeld => ?_)
            clear hK K
            try simp only [zz]
            refine wpAnyH_done (by kernel_rfl) ?_ _
            go_wp2_with fail
            go_roundg (g.evs.length - (p + 1))
            case measure => have := HPF.out; omega
            case rel => exact ⟨p + 1, by go_num, by omega, by have := HPF.out; rw [Hid]; omega, HDc⟩
          · obtain rfl : p = g.evs.length := by omega
            go_wp2_with fail
            refine DL.out.mono ?_
            rintro e w20 ⟨rfl, hw20⟩
            obtain rfl : wb = w20 := hw20.symm
            clear DL lc
            go_wp2_with fail
            go_roundg (10 - (i + 1))
            case measure => have := HIF.out; omega
            case rel => exact ⟨i + 1, by go_num, by omega, by have := HIF.out; rw [Hid]; omega, HDB.out⟩
      · obtain rfl : i = 10 := by omega
        have HDW0 : Hid (Dw W2 W9 fa g.evs.length br bw bf wa) := HDA.out.dw
        clear HDA HIF
        go_wp2_with fail
        go_loopg [11] g.evs.length (fun fu v11 wr => ∃ j : Nat, v11 = .int .i64 ((j : Nat) : Int) ∧ j ≤ g.evs.length ∧ Hid (j + fu = g.evs.length) ∧ Hid (Dw W2 W9 fa g.evs.length br bw bf wr))
        case atStart => exact ⟨0, rfl, Nat.zero_le _, Nat.zero_add _, HDW0.out⟩
        case round =>
          clear HDW0
          obtain ⟨j, rfl, hj0, HJF, HDW⟩ := hrel
          generalize hwq : wr = wz at *
          clear hwq
          have y0 : wz.cell? ⟨fa, 10, none⟩ = some (.slice (some ⟨br, 0, none⟩) g.evs.length g.evs.length) := (HZF.out wz HDW.out.up).cell rfl
          by_cases hjl : j < g.evs.length
          · have J0 : (0 : Int) ≤ ((j : Nat) : Int) := by omega
            have J1 : ((j : Nat) : Int) < ((g.evs.length : Nat) : Int) := by omega
            go_upto_region 19 with fail
            clear y0
            have HDd0 : Hid (Dw W2 W9 fa g.evs.length br bw bf wz.drew) := HDW.out.drew
            obtain ⟨q0, s0, f0⟩ := HDd0.out.rd.at_ hjl
            have HDn0 : Hid (Dw W2 W9 fa g.evs.length br bw bf (wz.setCell ⟨br, j, none⟩ (.bool (!q0))).drew) := HDd0.out.put (b := br) (.inl rfl) (HRWF.out.1).1 (HRWF.out.1).2 HDIS.out j (!q0)
            refine wp_region_held_drew (S := fun W => W.cell? ⟨fa, 10, none⟩ = some (.slice (some ⟨br, 0, none⟩) g.evs.length g.evs.length)) (by kernel_rfl) ((HZF.out _ HDd0.out.up).cell rfl) (fun hHeld => ?_)
            refine tk 0 rfl ?_; simp only [zz]
            refine tk 1 rfl ?_; simp only [zz]
            refine tk 2 rfl ?_; simp only [zz]
            refine tk 3 rfl ?_; simp only [zz]
            refine tk 4 rfl ?_; simp only [zz]
            refine tk 5 rfl ?_; simp only [zz]
            refine tk 6 rfl ?_; simp only [zz]
            refine wpAnyH_ready (rs := [7]) (by kernel_rfl) (by simp) ?_
            refine AllReadyH.cons rfl (fun K hK => ?_) AllReadyH.nil
            simp only [z1, z2, z3]
            go_simp
            refine hK.out _ _ ((HZF.out _ HDd0.out.up).cell rfl) (fun hHeld => ?_)
            clear hK K
            try simp only [zz]
            refine tk 8 rfl ?_; simp only [zz]
            refine tk 9 rfl ?_; simp only [zz]
            refine wpAnyH_ready (rs := [10]) (by kernel_rfl) (by simp) ?_
            refine AllReadyH.cons rfl (fun K hK => ?_) AllReadyH.nil
            simp only [z1, z2, z3]
            go_simp
            refine hK.out _ _ ((HZF.out _ HDn0.out.up).cell rfl) (fun hHeld => ?_)
            clear hK K
            try simp only [zz]
            refine wpAnyH_done (by kernel_rfl) ?_ _
            clear s0 f0 HDd0
            generalize (wz.setCell ⟨br, j, none⟩ (.bool (!q0))).drew = u0 at *
            go_upto_region 20 with fail
            have HDd1 : Hid (Dw W2 W9 fa g.evs.length br bw bf u0.drew) := HDn0.out.drew
            obtain ⟨q1, s1, f1⟩ := HDd1.out.wt.at_ hjl
            have HDn1 : Hid (Dw W2 W9 fa g.evs.length br bw bf (u0.setCell ⟨bw, j, none⟩ (.bool (!q1))).drew) := HDd1.out.put (b := bw) (.inr (.inl rfl)) (HRWF.out.2.1).1 (HRWF.out.2.1).2 HDIS.out j (!q1)
            refine wp_region_held_drew (S := fun W => W.cell? ⟨fa, 11, none⟩ = some (.slice (some ⟨bw, 0, none⟩) g.evs.length g.evs.length)) (by kernel_rfl) ((HZF.out _ HDd1.out.up).cell rfl) (fun hHeld => ?_)
            refine tk 0 rfl ?_; simp only [zz]
            refine tk 1 rfl ?_; simp only [zz]
            refine tk 2 rfl ?_; simp only [zz]
            refine tk 3 rfl ?_; simp only [zz]
            refine tk 4 rfl ?_; simp only [zz]
            refine tk 5 rfl ?_; simp only [zz]
            refine tk 6 rfl ?_; simp only [zz]
            refine wpAnyH_ready (rs := [7]) (by kernel_rfl) (by simp) ?_
            refine AllReadyH.cons rfl (fun K hK => ?_) AllReadyH.nil
            simp only [z1, z2, z3]
            go_simp
            refine hK.out _ _ ((HZF.out _ HDd1.out.up).cell rfl) (fun hHeld => ?_)
            clear hK K
            try simp only [zz]
            refine tk 8 rfl ?_; simp only [zz]
            refine tk 9 rfl ?_; simp only [zz]
            refine wpAnyH_ready (rs := [10]) (by kernel_rfl) (by simp) ?_
            refine AllReadyH.cons rfl (fun K hK => ?_) AllReadyH.nil
            simp only [z1, z2, z3]
            go_simp
            refine hK.out _ _ ((HZF.out _ HDn1.out.up).cell rfl) (fun hHeld => ?_)
            clear hK K
            try simp only [zz]
            refine wpAnyH_done (by kernel_rfl) ?_ _
            clear s1 f1 HDd1
            generalize (u0.setCell ⟨bw, j, none⟩ (.bool (!q1))).drew = u1 at *
            go_upto_region 21 with fail
            have HDd2 : Hid (Dw W2 W9 fa g.evs.length br bw bf u1.drew) := HDn1.out.drew
            obtain ⟨q2, s2, f2⟩ := HDd2.out.fe.at_ hjl
            have HDn2 : Hid (Dw W2 W9 fa g.evs.length br bw bf (u1.setCell ⟨bf, j, none⟩ (.bool (!q2))).drew) := HDd2.out.put (b := bf) (.inr (.inr rfl)) (HRWF.out.2.2).1 (HRWF.out.2.2).2 HDIS.out j (!q2)
            refine wp_region_held_drew (S := fun W => W.cell? ⟨fa, 12, none⟩ = some (.slice (some ⟨bf, 0, none⟩) g.evs.length g.evs.length)) (by kernel_rfl) ((HZF.out _ HDd2.out.up).cell rfl) (fun hHeld => ?_)
            refine tk 0 rfl ?_; simp only [zz]
            refine tk 1 rfl ?_; simp only [zz]
            refine tk 2 rfl ?_; simp only [zz]
            refine tk 3 rfl ?_; simp only [zz]
            refine tk 4 rfl ?_; simp only [zz]
            refine tk 5 rfl ?_; simp only [zz]
            refine tk 6 rfl ?_; simp only [zz]
            refine wpAnyH_ready (rs := [7]) (by kernel_rfl) (by simp) ?_
            refine AllReadyH.cons rfl (fun K hK => ?_) AllReadyH.nil
            simp only [z1, z2, z3]
            go_simp
            refine hK.out _ _ ((HZF.out _ HDd2.out.up).cell rfl) (fun hHeld => ?_)
            clear hK K
            try simp only [zz]
            refine tk 8 rfl ?_; simp only [zz]
            refine tk 9 rfl ?_; simp only [zz]
            refine wpAnyH_ready (rs := [10]) (by kernel_rfl) (by simp) ?_
            refine AllReadyH.cons rfl (fun K hK => ?_) AllReadyH.nil
            simp only [z1, z2, z3]
            go_simp
            refine hK.out _ _ ((HZF.out _ HDn2.out.up).cell rfl) (fun hHeld => ?_)
            clear hK K
            try simp only [zz]
            refine wpAnyH_done (by kernel_rfl) ?_ _
            go_wp2_with fail
            go_roundg (g.evs.length - (j + 1))
            case measure => have := HJF.out; omega
            case rel => exact ⟨j + 1, by go_num, by omega, by have := HJF.out; rw [Hid]; omega, HDn2.out⟩
          · obtain rfl : j = g.evs.length := by omega
            have HWwz : Hid (Below W2.heap.size W2 wz) := HDW.out.low
            have HBwz : Hid (Below w.heap.size w wz) := below_step HB2.out HB2.out.size HWwz.out
            have HFBz : Hid (Blk wz fb 36 (outV v2 f2)) := HDW.out.up.blk HFB9.out HS8.out.1
            have HEz := hid_of (HE9.out.up HDW.out.up HS8.out.2.2)
            have d0a : wz.cell? ⟨w.heap.size, 0, none⟩ = some (.int .i64 g.cells) := (HGa.out.of_below HWwz.out).cell rfl
            have d1a : wz.cell? ⟨w.heap.size, 1, none⟩ = some (.slice p1a g.evs.length k1a) := (HGa.out.of_below HWwz.out).cell rfl
            have d2a : wz.cell? ⟨w.heap.size, 2, none⟩ = some (.slice p2a g.rf.length k2a) := (HGa.out.of_below HWwz.out).cell rfl
            have d3a : wz.cell? ⟨w.heap.size, 3, none⟩ = some (.slice p3a g.co.length k3a) := (HGa.out.of_below HWwz.out).cell rfl
            have d4a : wz.cell? ⟨w.heap.size, 4, none⟩ = some (.slice p4a g.rmw.length k4a) := (HGa.out.of_below HWwz.out).cell rfl
            have d5a : wz.cell? ⟨w.heap.size, 5, none⟩ = some (.slice p5a g.addr.length k5a) := (HGa.out.of_below HWwz.out).cell rfl
            have d6a : wz.cell? ⟨w.heap.size, 6, none⟩ = some (.slice p6a g.dat.length k6a) := (HGa.out.of_below HWwz.out).cell rfl
            have d7a : wz.cell? ⟨w.heap.size, 7, none⟩ = some (.slice p7a g.ctrl.length k7a) := (HGa.out.of_below HWwz.out).cell rfl
            have D20 := hid_of (l8whole_calls ⟨.slice p1a g.evs.length k1a, .slice p2a g.rf.length k2a, .slice p3a g.co.length k3a, .slice p4a g.rmw.length k4a, .slice p5a g.addr.length k5a, .slice p6a g.dat.length k6a, .slice p7a g.ctrl.length k7a⟩ g qw W4.heap.size v2 f2 lo2 wz (HV.out.below HBwz.out) HEz.out HQW.out hn256 (HT.out.step' HBwz.out))
            unfold GrV.val at D20
            dsimp only at D20
            clear HZF HZL HCS HRWF HDIS HL9 HFA9 HFB9 HE9 HEz
            go_wp2_with (first | refine wpList_load_row rfl 36 _ rfl fb rfl 36 (outV v2 f2) (0, 0) _ HFBz.out Tryz.underlying36 rfl (by kernel_rfl) ?_)
            refine D20.out.mono ?_
            rintro e w21 ⟨rfl, hB21⟩
            clear D20 y0
            clear d0a d1a d2a d3a d4a d5a d6a d7a
            have HWw21 : Hid (Below W2.heap.size W2 w21) := below_step HWwz.out HWwz.out.size hB21
            have HBw21 : Hid (Below w.heap.size w w21) := below_step HB2.out HB2.out.size HWw21.out
            clear hB21
            have d0a : w21.cell? ⟨w.heap.size, 0, none⟩ = some (.int .i64 g.cells) := (HGa.out.of_below HWw21.out).cell rfl
            have d1a : w21.cell? ⟨w.heap.size, 1, none⟩ = some (.slice p1a g.evs.length k1a) := (HGa.out.of_below HWw21.out).cell rfl
            have d2a : w21.cell? ⟨w.heap.size, 2, none⟩ = some (.slice p2a g.rf.length k2a) := (HGa.out.of_below HWw21.out).cell rfl
            have d3a : w21.cell? ⟨w.heap.size, 3, none⟩ = some (.slice p3a g.co.length k3a) := (HGa.out.of_below HWw21.out).cell rfl
            have d4a : w21.cell? ⟨w.heap.size, 4, none⟩ = some (.slice p4a g.rmw.length k4a) := (HGa.out.of_below HWw21.out).cell rfl
            have d5a : w21.cell? ⟨w.heap.size, 5, none⟩ = some (.slice p5a g.addr.length k5a) := (HGa.out.of_below HWw21.out).cell rfl
            have d6a : w21.cell? ⟨w.heap.size, 6, none⟩ = some (.slice p6a g.dat.length k6a) := (HGa.out.of_below HWw21.out).cell rfl
            have d7a : w21.cell? ⟨w.heap.size, 7, none⟩ = some (.slice p7a g.ctrl.length k7a) := (HGa.out.of_below HWw21.out).cell rfl
            have d0b : w21.cell? ⟨nb, 0, none⟩ = some (.int .i64 g.cells) := (HGb.out.of_below HWw21.out).cell rfl
            have d1b : w21.cell? ⟨nb, 1, none⟩ = some (.slice p1b g.evs.length k1b) := (HGb.out.of_below HWw21.out).cell rfl
            have d2b : w21.cell? ⟨nb, 2, none⟩ = some (.slice p2b g.rf.length k2b) := (HGb.out.of_below HWw21.out).cell rfl
            have d3b : w21.cell? ⟨nb, 3, none⟩ = some (.slice p3b g.co.length k3b) := (HGb.out.of_below HWw21.out).cell rfl
            have d4b : w21.cell? ⟨nb, 4, none⟩ = some (.slice p4b g.rmw.length k4b) := (HGb.out.of_below HWw21.out).cell rfl
            have d5b : w21.cell? ⟨nb, 5, none⟩ = some (.slice p5b g.addr.length k5b) := (HGb.out.of_below HWw21.out).cell rfl
            have d6b : w21.cell? ⟨nb, 6, none⟩ = some (.slice p6b g.dat.length k6b) := (HGb.out.of_below HWw21.out).cell rfl
            have d7b : w21.cell? ⟨nb, 7, none⟩ = some (.slice p7b g.ctrl.length k7b) := (HGb.out.of_below HWw21.out).cell rfl
            have D22 := hid_of (r8Alike_calls ⟨.slice p1b g.evs.length k1b, .slice p2b g.rf.length k2b, .slice p3b g.co.length k3b, .slice p4b g.rmw.length k4b, .slice p5b g.addr.length k5b, .slice p6b g.dat.length k6b, .slice p7b g.ctrl.length k7b⟩ ⟨.slice p1a g.evs.length k1a, .slice p2a g.rf.length k2a, .slice p3a g.co.length k3a, .slice p4a g.rmw.length k4a, .slice p5a g.addr.length k5a, .slice p6a g.dat.length k6a, .slice p7a g.ctrl.length k7a⟩ g w21 (HU2.out.below HWw21.out) (HV.out.below HBw21.out))
            unfold GrV.val at D22
            dsimp only at D22
            go_wp2_with fail
            refine D22.out.mono ?_
            rintro e w22 ⟨rfl, hB22⟩
            clear D22
            clear d0a d1a d2a d3a d4a d5a d6a d7a
            clear d0b d1b d2b d3b d4b d5b d6b d7b
            have HWw22 : Hid (Below W2.heap.size W2 w22) := below_step HWw21.out HWw21.out.size hB22
            have HBw22 : Hid (Below w.heap.size w w22) := below_step HB2.out HB2.out.size HWw22.out
            have D23 := hid_of (lives_calls w22 (HF.out.step HBw22.out) (HT.out.step HBw22.out))
            go_wp2_with fail
            refine D23.out.mono ?_
            rintro e w23 ⟨rfl, hB23⟩
            have HWw23 : Hid (Below W2.heap.size W2 w23) := below_step HWw22.out HWw22.out.size hB23
            have HBw23 : Hid (Below w.heap.size w w23) := below_step HB2.out HB2.out.size HWw23.out
            go_wp2_with fail
            go_ret
            exact ⟨rfl, HBw23.out⟩
end Go.Proofs.YthiijcappjaagaaGreatDoor
