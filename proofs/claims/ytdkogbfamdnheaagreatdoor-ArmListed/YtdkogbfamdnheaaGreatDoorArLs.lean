import Derived.Test.YtdkogbfamdnheaaGreatDoorJ33
import Derived.Test.YtdkogbfamdnheaaGreatDoorJ34
namespace Go.Proofs.YtdkogbfamdnheaaGreatDoor
open Go.RowKit Go.Shelf Sx
set_option maxRecDepth 100000
set_option maxHeartbeats 16000000
set_option linter.unusedSimpArgs false
set_option linter.unusedVariables false
theorem Qsf {w : World} {V : GrV} {g : Gr} (h : GrR w V g) : (V.gs g).all (·.oneCell') = true := by
 obtain ⟨Ve, Vr, Vc, Vm, Va, Vd, Vt⟩ := V
 obtain ⟨p1, k1, e1, _, _⟩ := h.ev
 obtain ⟨p2, k2, e2, _, _⟩ := Qae h.rf
 obtain ⟨p4, k4, e4, _, _⟩ := Qae h.rmw
 obtain ⟨p5, k5, e5, _, _⟩ := Qae h.addr
 obtain ⟨p6, k6, e6, _, _⟩ := Qae h.dat
 obtain ⟨p7, k7, e7, _, _⟩ := Qae h.ctrl
 obtain ⟨p3, k3, e3, _, _⟩ := Qde h.co
 dsimp only at e1 e2 e3 e4 e5 e6 e7
 subst e1 e2 e3 e4 e5 e6 e7
 kernel_rfl
structure LsR (w0 w : World) (hb : Nat) (g h : Gr) (U : GrV) : Prop where
 like : Like8 g h
 gb : GrB h
 len : h.evs.length = g.evs.length
 gr : GrR w U h
 blk : Blk w hb 27 (U.gs h)
 low : Below w0.heap.size w0 w
theorem LsR.step {w0 w w' : World} {hb : Nat} {g h : Gr} {U : GrV} (x : LsR w0 w hb g h U) (b : Below w.heap.size w w') : LsR w0 w' hb g h U := ⟨x.like, x.gb, x.len, x.gr.below b, x.blk.of_below b, Qaa x.low x.low.size b⟩
theorem Qxt {g : Gr} (hw : Wf g true) : 0 ≤ g.cells ∧ g.cells ≤ (g.evs.length : Int) := by
 have h1 := hw 0 oW
 have h2 : (if Qar g then (0 : Int) else -1) = -1 := h1
 by_cases e : Qar g = true
 ·rw [if_pos e] at h2; omega
 ·unfold Qar at e
  simp at e
  omega
theorem Ql7 (V : GrV) (g : Gr) (vm : Value) (ms : List Int) (w : World) (h : GrR w V g) (hgb : GrB g) (hms : IntsR w vm ms) (hm8 : ms.length * 8 ≤ 140737488355328) (hF : Frm w) (hT : Tab w) : Calls Tryz.prog 8 #[V.val g, vm] w fun r w' => r = .returned (.bool true) ∧ Below w.heap.size w w' := by
 have hmi := hms
 obtain ⟨pm, cm, rfl, -⟩ := Qcw hms
 clear hms
 have hg0 := Blk.new w 27 (V.gs g)
 have hB0 : Below w.heap.size w (w.alloc (.cells (V.gs g) 27)) := bW.alloc nW _
 have e1 : w.alloc (.cells (V.gs g) 27) = w.alloc (.cells #[.int .i64 g.cells, V.ev, V.rf, V.co, V.rmw, V.addr, V.dat, V.ctrl] 27) := rfl
 rw [e1] at hB0 hg0
 have HV := Qa (h.below hB0)
 have HF := Qa (hF.step hB0)
 have HT := Qa (hT.step' hB0)
 have HMI := Qa (hmi.below hB0)
 have HB0 := Qa hB0
 have HG0 := Qa hg0
 have HGW := Qa hg0
 have HGB := Qa hgb
 unfold GrV.val
 clear h hF hT hB0 hg0 e1 hgb hmi
 go_enter Tryz.func8, Tryz.ntmps8
 go_upto_region 1 with fail
 generalize w.alloc (.cells #[.int .i64 g.cells, V.ev, V.rf, V.co, V.rmw, V.addr, V.dat, V.ctrl] 27) = W0 at *
 go_wp2_with (first | refine wpList_load_row rfl 27 _ rfl w.heap.size rfl 27 (V.gs g) (0, 0) _ HG0.out Tryz.underlying27 rfl kW ?_)
 have D := Qoh V g true W0 HV.out
 obtain ⟨x1, hx1⟩ : ∃ x, (chk g true).1 = x := ⟨_, rfl⟩
 obtain ⟨y1, hy1⟩ : ∃ x, (chk g true).2 = x := ⟨_, rfl⟩
 rw [hx1, hy1] at D
 have HX1 := Qa hx1
 clear hx1 hy1
 refine D.mono ?_
 clear D
 rintro e w1 ⟨rfl, hB1⟩
 have HA1 := Qa hB1
 have HG1 := Qa (HG0.out.of_below hB1)
 clear hB1
 by_cases hz1 : x1 = 0
 ·subst hz1
  have HW : Hid (Wf g true) := Qk9 HX1.out
  have HN : Hid (g.evs.length ≤ 256) := Qvg (show wfB g = true by unfold wfB; rw [HX1.out]; simp)
  go_wp2_with (first | refine wpList_load_row rfl 27 _ rfl w.heap.size rfl 27 (V.gs g) (0, 0) _ HG1.out Tryz.underlying27 rfl kW ?_)
  refine (Qh V g w1 (HV.out.below HA1.out) HGB.out).mono ?_
  rintro e w2 ⟨U, rfl, hO, hB2⟩
  have hA2 : Below W0.heap.size W0 w2 := Qaa HA1.out HA1.out.size hB2
  have hz := Blk.new w2 27 (z8 0)
  have hBz : Below w2.heap.size w2 ((w2.alloc (.cells (z8 0) 27)).setRow w2.heap.size (U.gs g)) := ((Below.refl w2.heap.size w2).alloc nW _).trans (Qan _ nW)
  have hgr := hO.gr HGB.out (by have := HN.out; omega)
  have hone := Qsf hgr
  have HLS : Hid (LsR W0 ((w2.alloc (.cells (z8 0) 27)).setRow w2.heap.size (U.gs g)) w2.heap.size g g U) := ⟨Like8.refl HW.out, HGB.out, rfl, hgr.below hBz, hz.setRow' _, Qaa hA2 hA2.size hBz⟩
  have HG2 := Qa (HG1.out.of_below (Qaa hB2 hB2.size hBz))
  have HHB : Hid (W0.heap.size ≤ w2.heap.size) := hA2.size
  go_upto_region 5 with (first | refine wpList_store_row rfl 27 _ _ rfl w2.heap.size (U.gs g) rfl rfl 27 (z8 0) hz kW rfl hone ?_)
  try simp only [Act.put]
  clear hz hBz hA2 hO hB2 HA1 HG0 HG1 hone hgr
  generalize (w2.alloc (.cells (z8 0) 27)).setRow w2.heap.size (U.gs g) = w3 at *
  generalize w2.heap.size = hb at *
  go_wp2_with fail
  go_loopg [8] ms.length (fun f v8 wr => ∃ (k : Nat) (h : Gr) (U : GrV), v8 = .int .i64 ((k : Nat) : Int) ∧ k ≤ ms.length ∧ Hid (k + f = ms.length) ∧ Hid (LsR W0 wr hb g h U))
  case atStart => exact ⟨0, g, U, rfl, Nat.zero_le _, Nat.zero_add _, HLS.out⟩
  case round =>
   clear HLS HG2
   obtain ⟨k, h, U, rfl, hk, HKF, HL⟩ := hrel
   generalize hwx : wr = wx at *
   clear hwx
   have K0 : (0 : Int) ≤ (k : Int) := by omega
   by_cases hkk : k < ms.length ∧ k < 30
   ·have K1 : (k : Int) < (ms.length : Int) := by omega
    have K2 : (k : Int) < 30 := by omega
    obtain ⟨pq, cq, eq, hmm⟩ := Qcw (HMI.out.below HL.out.low)
    obtain ⟨mss, mo, emo, hml, hmc⟩ := hmm oW
    have epq := (Value.slice.inj eq).1
    rw [emo] at epq
    subst epq
    obtain ⟨x, hx⟩ : ∃ x, ms[k]? = some x := ⟨_, List.getElem?_eq_getElem hkk.1⟩
    have mm := hmc k x hx
    obtain ⟨p, kk, eu, hp0, _, _⟩ := HL.out.gr.ev
    obtain ⟨hc0, hcn⟩ := Qxt HL.out.like.w
    have hn1 : h.evs.length ≤ 256 := by rw [HL.out.len]; exact HN.out
    have x0 : wx.cell? ⟨hb, 0, none⟩ = some (.int .i64 h.cells) := HL.out.blk.cell rfl
    have x1 : wx.cell? ⟨hb, 1, none⟩ = some (.slice p h.evs.length kk) := by rw [← eu]; exact HL.out.blk.cell rfl
    have HP0 := Qa hp0
    clear eq emo hmc hx hp0
    go_upto_region 9 with fail
    obtain ⟨q, hq⟩ : ∃ q, (decide (x < h.cells) || decide (x ≥ (h.evs.length : Int) - 1) || ((h.ev x.toNat).t == (h.ev (x.toNat + 1)).t)) = q := ⟨_, rfl⟩
    have HQ := Qa hq
    clear hq mm
    go_cut [67] from 26 to 70 (fun v67 wy => v67 = .bool q ∧ Hid (Below wx.heap.size wx wy))
    case first =>
     by_cases hA : x < h.cells
     ·have hqq : Hid (q = true) := by rw [Hid, ← HQ.out, decide_eq_true hA]; rfl
      clear HQ
      go_quiet (fail)
      go_wp2_with fail
      go_meet
      exact ⟨by first | rw [hqq.out] | (rw [← hqq.out]) | trace_state, ⟨rfl, rfl, rfl, Nat.le_refl _, fun _ _ => rfl⟩⟩
     ·by_cases hB : x ≥ (h.evs.length : Int) - 1
      ·have hqq : Hid (q = true) := by rw [Hid, ← HQ.out, decide_eq_true hB, Bool.or_true]; rfl
       clear HQ
       go_quiet (fail)
       go_wp2_with fail
       go_meet
       exact ⟨by first | rw [hqq.out] | (rw [← hqq.out]) | trace_state, ⟨rfl, rfl, rfl, Nat.le_refl _, fun _ _ => rfl⟩⟩
      ·obtain ⟨i, rfl⟩ : ∃ i : Nat, x = ((i : Nat) : Int) := ⟨x.toNat, oW⟩
       have hi : i + 1 < h.evs.length := by omega
       obtain ⟨s, o, rfl, hat⟩ := HP0.out oW
       have y0 := hat.c0 i _ (Gr.ev_at oW)
       have y1 := hat.c0 (i + 1) _ (Gr.ev_at hi)
       have I0 : (0 : Int) ≤ (i : Int) := by omega
       have I1 : (i : Int) < (h.evs.length : Int) := by omega
       have J0 : (0 : Int) ≤ (i : Int) + 1 := by omega
       have J1 : (i : Int) + 1 < (h.evs.length : Int) := by omega
       have W1 : IntKind.i64.wrap ((i : Int) + 1) = (i : Int) + 1 := by
        rw [show (i : Int) + 1 = ((i + 1 : Nat) : Int) by omega]
        exact Qch oW
       have T1 : ((i : Int) + 1).toNat = i + 1 := by omega
       have hqq : Hid (((h.ev i).t == (h.ev (i + 1)).t) = q) := by
        rw [Hid, ← HQ.out, decide_eq_false hA, decide_eq_false hB, Int.toNat_natCast]
        rfl
       clear HQ hat
       generalize (h.ev i).t = t0 at *
       generalize (h.ev (i + 1)).t = t1 at *
       go_quiet (fail)
       go_wp2_with fail
       go_meet
       exact ⟨by rw [← hqq.out], ⟨rfl, rfl, rfl, Nat.le_refl _, fun _ _ => rfl⟩⟩
    case rest =>
     obtain ⟨rfl, HBW⟩ := hcut
     generalize hwy : wc = wy at *
     have HLY := Qa (HL.out.step HBW.out)
     clear hwy x0 x1 HP0 HL HBW
     cases q
     ·have hq := HQ.out
      simp only [Bool.or_eq_false_iff, decide_eq_false_iff_not] at hq
      obtain ⟨⟨hA, hB⟩, hC⟩ := hq
      obtain ⟨i, rfl⟩ : ∃ i : Nat, x = ((i : Nat) : Int) := ⟨x.toNat, oW⟩
      have hi : i + 1 < h.evs.length := by omega
      rw [Int.toNat_natCast] at hC
      have HS := Qa (HLY.out.like.step (by have := HLY.out.like.c; omega) hi (by simpa using hC))
      have D := Qlj U h i wy HLY.out.gr HLY.out.gb HLY.out.like.w hn1 hi
      have HD := Qa D
      have HBX := Qa HLY.out.blk
      clear D hA hB hC HQ
      go_wp2_with (first | refine wpList_load_row rfl 27 _ rfl hb rfl 27 (U.gs h) (0, 0) _ HBX.out Tryz.underlying27 rfl kW ?_)
      refine HD.out.mono ?_
      rintro e w5 ⟨U5, rfl, hg5, hB5⟩
      have hgq := hg5.gr (Qm8 HLY.out.gb i) (by rw [Qke]; omega)
      have hone := Qsf hgq
      have hbl : hb < wy.heap.size := HBX.out.lt
      have HGQ := Qa ((hg5.elder hbl (U5.gs (swp h i))).gr (Qm8 HLY.out.gb i) (by rw [Qke]; omega))
      have HB5 := Qa hB5
      have HX5 := Qa (HBX.out.of_below hB5)
      have HON := Qa hone
      clear hone hg5 hgq hB5 HD hbl
      go_wp2_with (first | refine wpList_store_row rfl 27 _ _ rfl hb (U5.gs (swp h i)) rfl rfl 27 (U.gs h) HX5.out kW rfl HON.out ?_)
      go_roundg (ms.length - (k + 1))
      case measure => have := HKF.out; omega
      case rel => exact ⟨k + 1, swp h i, U5, by go_num, oW, by have := HKF.out; rw [Hid]; omega, HS.out, Qm8 HLY.out.gb i, (Qke h i).trans HLY.out.len, HGQ.out, HX5.out.setRow' _, (Qaa HLY.out.low HLY.out.low.size HB5.out).trans (Qan _ HHB.out)⟩
     ·go_wp2_with fail
      go_roundg (ms.length - (k + 1))
      case measure => have := HKF.out; omega
      case rel => exact ⟨k + 1, h, U, by go_num, oW, by have := HKF.out; rw [Hid]; omega, HLY.out⟩
   ·have HGX := Qa (HGW.out.of_below HL.out.low)
    have HBX := Qa HL.out.blk
    have D1 := Qf6 V g wx (HV.out.below HL.out.low) (HF.out.step HL.out.low) (HT.out.step' HL.out.low)
    have HD1 := Qa D1
    clear D1
    rcases (show (k < ms.length ∧ ¬ k < 30) ∨ ¬ k < ms.length by omega) with ⟨hk1, hk2⟩ | hk1
    all_goals
     first | (have F2 : decide (((k : Nat) : Int) < 30) = false := (by simp; omega)) | skip
     first | (have F1 : decide (((k : Nat) : Int) < (ms.length : Int)) = true := (by simp; omega)) | (have F1 : decide (((k : Nat) : Int) < (ms.length : Int)) = false := (by simp; omega))
     go_wp2_with (first | refine wpList_load_row rfl 27 _ rfl w.heap.size rfl 27 (V.gs g) (0, 0) _ HGX.out Tryz.underlying27 rfl kW ?_)
     refine HD1.out.mono ?_
     rintro e w4 ⟨ax, va, la, er, rfl, hans, hown, hB4⟩
     obtain ⟨pz, cz, rfl⟩ := Qag hown
     obtain ⟨rfl, hok⟩ := Qum hans HX1.out
     have HL4 := Qa (HL.out.step hB4)
     have HOK := Qa hok
     have HB4 := Qa HL4.out.blk
     clear hown hans hok hB4 HD1
     have D2 := Qf6 U h w4 HL4.out.gr (HF.out.step HL4.out.low) (HT.out.step' HL4.out.low)
     have HD2 := Qa D2
     clear D2
     go_wp2_with (first | refine wpList_load_row rfl 27 _ rfl hb rfl 27 (U.gs h) (0, 0) _ HB4.out Tryz.underlying27 rfl kW ?_)
     refine HD2.out.mono ?_
     rintro e w5 ⟨bx, vb, lb, er, rfl, hans, hown, hB5⟩
     obtain ⟨pb, cb, rfl⟩ := Qag hown
     obtain ⟨rfl, hokh⟩ := Qum hans (QCl HL4.out.like.w)
     have hab : ax = bx := HL4.out.like.ok HN.out HW.out HOK.out hokh
     subst hab
     have HL5 := Qa (HL4.out.step hB5)
     clear hown hans hokh hB5 HD2
     go_wp2_with fail
     refine (Qh2 w5 (HF.out.step HL5.out.low) (HT.out.step' HL5.out.low)).mono ?_
     rintro e w6 ⟨rfl, hB6⟩
     go_wp2_with fail
     go_ret
     exact ⟨rfl, Qaa HB0.out HB0.out.size (Qaa HL5.out.low HL5.out.low.size hB6)⟩
 ·have hz : (x1 != 0) = true := by simpa using hz1
  go_wp2_with fail
  refine (Qh2 w1 (HF.out.step HA1.out) (HT.out.step' HA1.out)).mono ?_
  rintro e w3 ⟨rfl, hB3⟩
  go_wp2_with fail
  go_ret
  exact ⟨rfl, Qaa HB0.out HB0.out.size (Qaa HA1.out HA1.out.size hB3)⟩
end Go.Proofs.YtdkogbfamdnheaaGreatDoor
