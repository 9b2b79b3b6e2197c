/- The reference's Check. (Printed by gr8h.py.) -/
import Derived.Test.YthiijcappjaagaaGreatDoorJ24
import Derived.Test.YthiijcappjaagaaGreatDoorJ23
namespace Go.Proofs.YthiijcappjaagaaGreatDoor
open Go.RowKit Go.Shelf Sx
theorem chk_is {p : Int × Int} {x y a b : Int} (h : p = (x, y)) (h2 : p = (a, b)) : x = a ∧ y = b := by
  rw [h] at h2
  exact ⟨congrArg Prod.fst h2, congrArg Prod.snd h2⟩
theorem chk_one {g : Gr} {q : Bool} (h : bad1 g = true) : chk g q = (1, 0) := by
  have e : rl g q 0 = 0 := by unfold rl; rw [h]; rfl
  rw [chk_hit (k := 0) (by omega) (fun j h => by omega) (by rw [e]; omega), e]
  rfl
theorem fst_two {P : Nat → Bool} : ∀ {a f : Nat}, fstBad P a f = -1 ∨ 0 ≤ fstBad P a f
  | _, 0 => .inl rfl
  | a, f + 1 => by
    rw [fstBad]
    by_cases h : P a = true
    · rw [if_pos h]; exact .inr (by omega)
    · rw [if_neg h]; exact fst_two
theorem bad4_two (g : Gr) : bad4 g = -1 ∨ 0 ≤ bad4 g := by
  unfold bad4
  have h := fst_two (P := fun i => !(ok4a g i (g.rf.getD i (0, 0)) && ok4b g (g.rf.getD i (0, 0)))) (a := 0) (f := g.rf.length)
  revert h
  generalize fstBad (fun i => !(ok4a g i (g.rf.getD i (0, 0)) && ok4b g (g.rf.getD i (0, 0)))) 0 g.rf.length = r
  intro h
  dsimp only
  split <;> (try split) <;> omega
theorem bad5_two {g : Gr} (h1 : bad1 g = false) : bad5 g = -1 ∨ 0 ≤ bad5 g := by
  have hc : 0 ≤ g.cells := by simp [bad1] at h1; omega
  unfold bad5
  split
  · split
    · exact .inl rfl
    · exact .inr hc
  · exact fst_two
theorem bad6_two (g : Gr) : bad6 g = -1 ∨ 0 ≤ bad6 g := by
  unfold bad6
  exact fst_two
theorem chk_at {g : Gr} {q : Bool} {x : Int} {k : Nat} (hk : k < 9) (h : ∀ j, j < k → rl g q j = -1) (e : rl g q k = x) (hx : x ≠ -1) : chk g q = (((k : Nat) : Int) + 1, x) := by
  rw [chk_hit hk h (by rw [e]; exact hx), e]
theorem rl_up {g : Gr} {q : Bool} {k : Nat} (h : ∀ j, j < k → rl g q j = -1) (e : rl g q k = -1) : ∀ j, j < k + 1 → rl g q j = -1 := fun j hj => by
  by_cases hjk : j = k
  · rw [hjk]; exact e
  · exact h j (by omega)
theorem rl_two {g : Gr} {q : Bool} (h1 : bad1 g = false) (h2 : bad2 g q = -1) : ∀ j, j < 2 → rl g q j = -1 :=
  rl_up (rl_up (fun j h => by omega) (show rl g q 0 = -1 by unfold rl; rw [h1]; rfl)) (show rl g q 1 = -1 from h2)
theorem chk_dep {g : Gr} {q : Bool} {x : Int} {k : Nat} (hk : k < 3) (h : ∀ j, j < 6 + k → rl g q j = -1) (e : rl g q (6 + k) = x) (hx : x ≠ -1) : chk g q = (7 + ((k : Nat) : Int), x) := by
  rw [chk_at (by omega) h e hx]
  congr 1
  omega
theorem badD_no {evs : List Ev} {l : List (Int × Int)} {ks : List Int} (h : 0 < l.length) : badD evs false l ks = 0 := by
  show fstBad _ 0 l.length = ((0 : Nat) : Int)
  exact fstBad_hit (i := 0) (Nat.le_refl _) (by omega) (fun j h1 h2 => by omega) rfl
theorem badD_nil {evs : List Ev} {q : Bool} {l : List (Int × Int)} {ks : List Int} (h : ¬ 0 < l.length) : badD evs q l ks = -1 :=
  fstBad_none (fun j _ h2 => by omega)
theorem chk_two {g : Gr} {q : Bool} {x : Int} (h1 : bad1 g = false) (h : bad2 g q = x) (hx : x ≠ -1) : chk g q = (2, x) := by
  have e0 : rl g q 0 = -1 := by unfold rl; rw [h1]; rfl
  have e1 : rl g q 1 = x := by unfold rl; exact h
  rw [chk_hit (k := 1) (by omega) (fun j h => by obtain rfl : j = 0 := by omega
                                                 exact e0) (by rw [e1]; exact hx), e1]
  rfl
set_option linter.unusedSimpArgs false in
set_option maxRecDepth 100000 in
set_option maxHeartbeats 16000000 in
theorem r8Check_calls (V : GrV) (g : Gr) (q : Bool) (w : World) (h : GrR w V g) : Calls Tryz.prog 9 #[V.val g, .bool q] w fun r w' => r = .returned (.tuple #[.int .i64 (chk g q).1, .int .i64 (chk g q).2]) ∧ Below w.heap.size w w' := by
  generalize hr : chk g q = r
  obtain ⟨r1, r2⟩ := r
  have HR := hid_of hr
  obtain ⟨Ve, Vr, Vc, Vm, Va, Vd, Vt⟩ := V
  obtain ⟨pe, ce, ee, hp, _⟩ := h.ev
  obtain ⟨p5, k5, e5, _, hl5⟩ := parg_form h.addr
  obtain ⟨p6, k6, e6, _, hl6⟩ := parg_form h.dat
  obtain ⟨p7, k7, e7, _, hl7⟩ := parg_form h.ctrl
  dsimp only at ee e5 e6 e7
  subst ee
  subst e5
  subst e6
  subst e7
  have HP := hid_of hp
  have H := hid_of h
  have hB : Below w.heap.size w (w.alloc (.cells #[.int .i64 g.cells, .slice pe g.evs.length ce, Vr, Vc, Vm, .slice p5 g.addr.length k5, .slice p6 g.dat.length k6, .slice p7 g.ctrl.length k7] 26)) := (Below.refl _ _).alloc (Nat.le_refl _) _
  have hb := Blk.new w 26 #[.int .i64 g.cells, .slice pe g.evs.length ce, Vr, Vc, Vm, .slice p5 g.addr.length k5, .slice p6 g.dat.length k6, .slice p7 g.ctrl.length k7]
  unfold GrV.val
  dsimp only
  clear hr hp h
  go_enter Tryz.func9, Tryz.ntmps9
  go_upto_region 1 with fail
  have HB := hid_of hB
  have HG := hid_of hb
  generalize w.alloc (.cells #[.int .i64 g.cells, .slice pe g.evs.length ce, Vr, Vc, Vm, .slice p5 g.addr.length k5, .slice p6 g.dat.length k6, .slice p7 g.ctrl.length k7] 26) = W0 at *
  have c0 : W0.cell? ⟨w.heap.size, 0, none⟩ = some (.int .i64 g.cells) := hb.cell rfl
  have c1 : W0.cell? ⟨w.heap.size, 1, none⟩ = some (.slice pe g.evs.length ce) := hb.cell rfl
  clear hb hB
  by_cases b1 : g.cells < 0
  · obtain ⟨rfl, rfl⟩ := chk_is HR.out (chk_one (by unfold bad1; rw [decide_eq_true b1]; rfl))
    go_wp2_with fail
    go_ret2
    exact ⟨rfl, HB.out⟩
  by_cases b2 : 4096 < g.cells
  · obtain ⟨rfl, rfl⟩ := chk_is HR.out (chk_one (by unfold bad1; simp; omega))
    go_wp2_with fail
    go_ret2
    exact ⟨rfl, HB.out⟩
  by_cases b3 : ((g.evs.length : Nat) : Int) < g.cells
  · obtain ⟨rfl, rfl⟩ := chk_is HR.out (chk_one (by unfold bad1; simp; omega))
    go_wp2_with fail
    go_ret2
    exact ⟨rfl, HB.out⟩
  by_cases b4 : 256 < ((g.evs.length : Nat) : Int)
  · obtain ⟨rfl, rfl⟩ := chk_is HR.out (chk_one (by unfold bad1; simp; omega))
    go_wp2_with fail
    go_ret2
    exact ⟨rfl, HB.out⟩
  obtain ⟨nc, hn⟩ : ∃ n : Nat, g.cells = (n : Int) := ⟨g.cells.toNat, by omega⟩
  have h1 : bad1 g = false := by unfold bad1; simp; omega
  have hl256 : g.evs.length ≤ 256 := by omega
  have hnl : nc ≤ g.evs.length := by omega
  have H1 := hid_of h1
  have HN := hid_of hn
  obtain ⟨md, HMD⟩ : ∃ md : Int, Hid (md = if q then 11 else 1) := ⟨_, rfl⟩
  go_upto_if 35 with fail
  have hb2 := Blk.new W0 63 #[.int .i64 (-1), .int .i64 2, .int .i64 0, .int .u64 0, .int .i64 1]
  have hB2 : Below W0.heap.size W0 (W0.alloc (.cells #[.int .i64 (-1), .int .i64 2, .int .i64 0, .int .u64 0, .int .i64 1] 63)) := (Below.refl _ _).alloc (Nat.le_refl _) _
  have HX2 := hid_of hb2
  have HY2 := hid_of hB2
  have f4 := hb2.frozen 4
  have z4 := hb2.cell (j := 4) rfl
  clear hb2 hB2 c0 c1 h1 hn b1 b2 b3 b4
  generalize W0.alloc (.cells #[.int .i64 (-1), .int .i64 2, .int .i64 0, .int .u64 0, .int .i64 1] 63) = W1 at *
  go_cut [35] (fun v35 wx => Hid (v35 = v35) ∧ Hid (Blk wx W0.heap.size 63 #[.int .i64 (-1), .int .i64 2, .int .i64 0, .int .u64 0, .int .i64 md]) ∧ Hid (Below W0.heap.size W0 wx))
  case first =>
    cases q
    · obtain rfl : md = 1 := HMD.out
      go_wp2_with fail
      go_meet
      case rel => exact ⟨trivial, HX2.out, HY2.out⟩
    · obtain rfl : md = 11 := HMD.out
      go_wp2_with fail
      go_meet
      case rel => exact ⟨trivial, HX2.out.set 4 _, HY2.out.setCell (Nat.le_refl _) _⟩
  case rest =>
  obtain ⟨_, HXC, HYC⟩ := hcut
  generalize hwc : wc = W2 at *
  clear hwc z4 f4 HX2 HY2
  go_wp2_with fail
  go_loopg [7] nc (fun f v7 wr => ∃ c : Nat, v7 = .int .i64 ((c : Nat) : Int) ∧ c ≤ nc ∧ Hid (c + f = nc) ∧ Hid (∀ j, 0 ≤ j → j < c → @decide (g.ev j ≠ iniEv j q) (Ev.ndec _ _) = false) ∧ (∃ lv : Int, Hid (Blk wr W0.heap.size 63 #[.int .i64 (-1), .int .i64 2, .int .i64 lv, .int .u64 0, .int .i64 md])) ∧ Hid (Below W0.heap.size W0 wr))
  case atStart => exact ⟨0, rfl, Nat.zero_le _, Nat.zero_add _, (fun j h1 h2 => by omega), ⟨0, HXC⟩, HYC⟩
  case round =>
    obtain ⟨c, rfl, hcn, HKF, HALL, ⟨lv, HE⟩, HW⟩ := hrel
    generalize hwa : wr = wa at *
    clear hwa
    have HBW : Hid (Below w.heap.size w wa) := below_step HB.out HB.out.size HW.out
    have HGa := hid_of (HG.out.of_below HW.out)
    have c0 : wa.cell? ⟨w.heap.size, 0, none⟩ = some (.int .i64 ((nc : Nat) : Int)) := by rw [← HN.out]; exact HGa.out.cell rfl
    have C0 : (0 : Int) ≤ ((c : Nat) : Int) := by omega
    by_cases hlt : c < nc
    · have C1 : ((c : Nat) : Int) < ((nc : Nat) : Int) := by omega
      have C2 : ((c : Nat) : Int) < ((g.evs.length : Nat) : Int) := by omega
      have z2 : wa.cell? ⟨W0.heap.size, 2, none⟩ = some (.int .i64 lv) := HE.out.cell rfl
      have f2 := HE.out.frozen 2
      go_upto_region 10 with fail
      have HE2 := hid_of (HE.out.set 2 (.int .i64 ((c : Nat) : Int)))
      have HW2 : Hid (Below W0.heap.size W0 (wa.setCell ⟨W0.heap.size, 2, none⟩ (.int .i64 ((c : Nat) : Int)))) := HW.out.setCell (Nat.le_refl _) _
      clear z2 f2 c0
      generalize wa.setCell ⟨W0.heap.size, 2, none⟩ (.int .i64 ((c : Nat) : Int)) = wy at *
      have HBY : Hid (Below w.heap.size w wy) := below_step HB.out HB.out.size HW2.out
      obtain ⟨s, o, rfl, hat⟩ := HP.out (by omega)
      have hat' := hat.below HBY.out
      have he := Gr.ev_at (g := g) (i := c) (by omega)
      have x0 := hat'.c0 c _ he
      have x1 := hat'.c1 c _ he
      have x2 := hat'.c2 c _ he
      have x3 := hat'.c3 c _ he
      have x4 := hat'.c4 c _ he
      have c1 : wy.cell? ⟨w.heap.size, 1, none⟩ = some (.slice (some ⟨s, o, none⟩) g.evs.length ce) := (HG.out.of_below HW2.out).cell rfl
      have y0 : wy.cell? ⟨W0.heap.size, 0, none⟩ = some (.int .i64 (-1)) := HE2.out.cell rfl
      have y1 : wy.cell? ⟨W0.heap.size, 1, none⟩ = some (.int .i64 2) := HE2.out.cell rfl
      have y2 : wy.cell? ⟨W0.heap.size, 2, none⟩ = some (.int .i64 ((c : Nat) : Int)) := HE2.out.cell rfl
      have y3 : wy.cell? ⟨W0.heap.size, 3, none⟩ = some (.int .u64 0) := HE2.out.cell rfl
      have y4 : wy.cell? ⟨W0.heap.size, 4, none⟩ = some (.int .i64 md) := HE2.out.cell rfl
      have HI : Hid (g.ev c = iniEv c q ↔ (g.ev c).t = -1 ∧ (g.ev c).k = 2 ∧ (g.ev c).l = (c : Int) ∧ (g.ev c).v = 0 ∧ (g.ev c).m = md) := by rw [Hid, iniEv, ev_eta, HMD.out]
      clear he hat hat'
      generalize hge : g.ev c = ek at *
      have HGE := hid_of hge
      clear hge
      obtain ⟨et, ek', el, ev, em⟩ := ek
      dsimp only at x0 x1 x2 x3 x4 HI
      by_cases hq : et = -1 ∧ ek' = 2 ∧ el = (c : Int) ∧ ev = 0 ∧ em = md
      · have HQ := hid_of hq
        obtain ⟨rfl, rfl, rfl, rfl, rfl⟩ := hq
        go_quiet (fail)
        go_wp2_with fail
        go_roundg (nc - (c + 1))
        case measure => have := HKF.out; omega
        case rel =>
          refine ⟨c + 1, by go_num, by omega, by have := HKF.out; rw [Hid]; omega, fun j h1 h2 => ?_, ⟨_, HE2.out⟩, below_drewN HW2.out _⟩
          by_cases e : j = c
          · subst e
            rw [HGE.out]
            exact @decide_eq_false _ (Ev.ndec _ _) (fun h => h (HI.out.2 HQ.out))
          · exact HALL.out j h1 (by omega)
      · have H2E : Hid (bad2 g q = ((c : Nat) : Int)) := by
          rw [Hid, bad2, HN.out, Int.toNat_natCast]
          refine fstBad_hit (Nat.zero_le _) (by omega) HALL.out ?_
          rw [HGE.out]
          exact @decide_eq_true _ (Ev.ndec _ _) (fun e => hq (HI.out.1 e))
        obtain ⟨rfl, rfl⟩ := chk_is HR.out (chk_two H1.out H2E.out (by omega))
        have HQ := hid_of hq
        clear hq
        by_cases e1 : et = -1
        case neg =>
          go_quiet (fail)
          go_wp2_with fail
          go_ret2
          exact ⟨rfl, below_drewN HBY.out _⟩
        subst e1
        by_cases e2 : ek' = 2
        case neg =>
          go_quiet (fail)
          go_wp2_with fail
          go_ret2
          exact ⟨rfl, below_drewN HBY.out _⟩
        subst e2
        by_cases e3 : el = ((c : Nat) : Int)
        case neg =>
          go_quiet (fail)
          go_wp2_with fail
          go_ret2
          exact ⟨rfl, below_drewN HBY.out _⟩
        subst e3
        by_cases e4 : ev = 0
        case neg =>
          go_quiet (fail)
          go_wp2_with fail
          go_ret2
          exact ⟨rfl, below_drewN HBY.out _⟩
        subst e4
        by_cases e5 : em = md
        case neg =>
          go_quiet (fail)
          go_wp2_with fail
          go_ret2
          exact ⟨rfl, below_drewN HBY.out _⟩
        exact absurd ⟨rfl, rfl, rfl, rfl, e5⟩ HQ.out
    · obtain rfl : c = nc := by omega
      have H2 : Hid (bad2 g q = -1) := by
        rw [Hid, bad2, HN.out, Int.toNat_natCast]
        exact fstBad_none (fun j h1 h2 => HALL.out j h1 (by omega))
      have H2L := hid_of (rl_two H1.out H2.out)
      go_wp2_with fail
      clear c0
      go_loopg [8] (g.evs.length - c) (fun f v8 wr => ∃ k : Nat, v8 = .int .i64 ((k : Nat) : Int) ∧ c ≤ k ∧ k ≤ g.evs.length ∧ Hid (k + f = g.evs.length) ∧ Hid (∀ j, c ≤ j → j < k → (!okEv g.cells (g.ev j) q) = false) ∧ Hid (Below W0.heap.size W0 wr))
      case atStart => exact ⟨c, rfl, Nat.le_refl _, hnl, by rw [Hid]; omega, (fun j h1 h2 => by omega), HW.out⟩
      case round =>
        obtain ⟨k, rfl, hk0, hk, HKG, HALL3, HW3⟩ := hrel
        generalize hwb : wr = wb at *
        clear hwb
        have HBb : Hid (Below w.heap.size w wb) := below_step HB.out HB.out.size HW3.out
        have HGb := hid_of (HG.out.of_below HW3.out)
        have c1 : wb.cell? ⟨w.heap.size, 1, none⟩ = some (.slice pe g.evs.length ce) := HGb.out.cell rfl
        have K0 : (0 : Int) ≤ ((k : Nat) : Int) := by omega
        by_cases hlt2 : k < g.evs.length
        · have K1 : ((k : Nat) : Int) < ((g.evs.length : Nat) : Int) := by omega
          go_upto_region 15 with fail
          clear c1
          obtain ⟨s, o, rfl, hat⟩ := HP.out (by omega)
          have HAT := hid_of (hat.below HBb.out)
          have HC0 := hid_of (r8event_calls ⟨.slice (some ⟨s, o, none⟩) g.evs.length ce, Vr, Vc, Vm, .slice p5 g.addr.length k5, .slice p6 g.dat.length k6, .slice p7 g.ctrl.length k7⟩ g (g.ev k) q wb.drew)
          unfold GrV.val Ev.val at HC0
          dsimp only at HC0
          have HE3 := hid_of (Gr.ev_at hlt2)
          generalize hev : g.ev k = ek at *
          obtain ⟨et, ek', el, ev, em⟩ := ek
          have HZ : Hid (∀ W, Below wb.heap.size wb W → W.cell? ⟨w.heap.size, 0, none⟩ = some (.int .i64 g.cells) ∧ W.cell? ⟨w.heap.size, 1, none⟩ = some (.slice (some ⟨s, o, none⟩) g.evs.length ce) ∧ W.cell? ⟨w.heap.size, 2, none⟩ = some (Vr) ∧ W.cell? ⟨w.heap.size, 3, none⟩ = some (Vc) ∧ W.cell? ⟨w.heap.size, 4, none⟩ = some (Vm) ∧ W.cell? ⟨w.heap.size, 5, none⟩ = some (.slice p5 g.addr.length k5) ∧ W.cell? ⟨w.heap.size, 6, none⟩ = some (.slice p6 g.dat.length k6) ∧ W.cell? ⟨w.heap.size, 7, none⟩ = some (.slice p7 g.ctrl.length k7) ∧ W.cell? ⟨s, o + k * 5, none⟩ = some (.int .i64 et) ∧ W.cell? ⟨s, o + k * 5 + 1, none⟩ = some (.int .i64 ek') ∧ W.cell? ⟨s, o + k * 5 + 2, none⟩ = some (.int .i64 el) ∧ W.cell? ⟨s, o + k * 5 + 3, none⟩ = some (.int .u64 ev) ∧ W.cell? ⟨s, o + k * 5 + 4, none⟩ = some (.int .i64 em)) := fun W hW => ⟨(HGb.out.of_below hW).cell rfl, (HGb.out.of_below hW).cell rfl, (HGb.out.of_below hW).cell rfl, (HGb.out.of_below hW).cell rfl, (HGb.out.of_below hW).cell rfl, (HGb.out.of_below hW).cell rfl, (HGb.out.of_below hW).cell rfl, (HGb.out.of_below hW).cell rfl, (HAT.out.below hW).c0 k _ HE3.out, (HAT.out.below hW).c1 k _ HE3.out, (HAT.out.below hW).c2 k _ HE3.out, (HAT.out.below hW).c3 k _ HE3.out, (HAT.out.below hW).c4 k _ HE3.out⟩
          have HEV := hid_of hev
          clear hev hat
          generalize hgbn : w.heap.size = gb at *
          generalize hcl : g.cells = cl at *
          dsimp only at HC0
          cases hok : okEv cl ⟨et, ek', el, ev, em⟩ q
          · rw [hok] at HC0
            have HC := HC0
            have H3E : Hid (bad3 g q = ((k : Nat) : Int)) := by
              rw [Hid, bad3, hcl, HN.out, Int.toNat_natCast]
              refine fstBad_hit hk0 (by omega) (fun j h1 h2 => by have := HALL3.out j h1 h2; rwa [HN.out] at this) ?_
              rw [HEV.out, ← HN.out, hok]
              rfl
            obtain ⟨rfl, rfl⟩ := chk_is HR.out (chk_at (k := 2) (by omega) H2L.out (show rl g q 2 = _ from H3E.out) (by omega))
            clear HC0 hok
            refine wp_region_held_drew (S := (fun w' => w'.cell? ⟨gb, 0, none⟩ = some (.int .i64 cl) ∧ w'.cell? ⟨gb, 1, none⟩ = some (.slice (some ⟨s, o, none⟩) g.evs.length ce) ∧ w'.cell? ⟨gb, 2, none⟩ = some (Vr) ∧ w'.cell? ⟨gb, 3, none⟩ = some (Vc) ∧ w'.cell? ⟨gb, 4, none⟩ = some (Vm) ∧ w'.cell? ⟨gb, 5, none⟩ = some (.slice p5 g.addr.length k5) ∧ w'.cell? ⟨gb, 6, none⟩ = some (.slice p6 g.dat.length k6) ∧ w'.cell? ⟨gb, 7, none⟩ = some (.slice p7 g.ctrl.length k7) ∧ w'.cell? ⟨s, o + k * 5, none⟩ = some (.int .i64 et) ∧ w'.cell? ⟨s, o + k * 5 + 1, none⟩ = some (.int .i64 ek') ∧ w'.cell? ⟨s, o + k * 5 + 2, none⟩ = some (.int .i64 el) ∧ w'.cell? ⟨s, o + k * 5 + 3, none⟩ = some (.int .u64 ev) ∧ w'.cell? ⟨s, o + k * 5 + 4, none⟩ = some (.int .i64 em))) (by kernel_rfl) (HZ.out _ (Below.refl _ _).drew) (fun hHeld => ?_)
            refine tk 0 rfl ?_; simp only [zz]
            refine tk 1 rfl ?_; simp only [zz]
            refine tk 2 rfl ?_; simp only [zz]
            refine tk 3 rfl ?_; simp only [zz]
            refine tk 4 rfl ?_; simp only [zz]
            refine tk 5 rfl ?_; simp only [zz]
            refine tk 6 rfl ?_; simp only [zz]
            refine wpAnyH_ready (rs := [7]) (by kernel_rfl) (by simp) ?_
            refine AllReadyH.cons rfl (fun K hK => ?_) AllReadyH.nil
            simp only [z1, z2, z3]
            go_simp
            refine HC.out.mono ?_
            rintro e w5 ⟨rfl, hB5⟩
            have hX5 : Below wb.heap.size wb w5 := ((Below.refl wb.heap.size wb).drew).trans hB5
            refine hK.out _ _ (HZ.out w5 hX5) (fun hHeld => ?_)
            clear hK K
            try simp only [zz]
            refine tk 8 rfl ?_; simp only [zz]
            refine wpAnyH_done (by kernel_rfl) ?_ _
            go_wp2_with fail
            go_ret2
            exact ⟨rfl, by rw [hgbn]; exact HBb.out.trans (hX5.mono (by rw [← hgbn]; exact HBb.out.size))⟩
          · rw [hok] at HC0
            have HC := HC0
            have HOK := hid_of hok
            clear HC0 hok
            refine wp_region_held_drew (S := (fun w' => w'.cell? ⟨gb, 0, none⟩ = some (.int .i64 cl) ∧ w'.cell? ⟨gb, 1, none⟩ = some (.slice (some ⟨s, o, none⟩) g.evs.length ce) ∧ w'.cell? ⟨gb, 2, none⟩ = some (Vr) ∧ w'.cell? ⟨gb, 3, none⟩ = some (Vc) ∧ w'.cell? ⟨gb, 4, none⟩ = some (Vm) ∧ w'.cell? ⟨gb, 5, none⟩ = some (.slice p5 g.addr.length k5) ∧ w'.cell? ⟨gb, 6, none⟩ = some (.slice p6 g.dat.length k6) ∧ w'.cell? ⟨gb, 7, none⟩ = some (.slice p7 g.ctrl.length k7) ∧ w'.cell? ⟨s, o + k * 5, none⟩ = some (.int .i64 et) ∧ w'.cell? ⟨s, o + k * 5 + 1, none⟩ = some (.int .i64 ek') ∧ w'.cell? ⟨s, o + k * 5 + 2, none⟩ = some (.int .i64 el) ∧ w'.cell? ⟨s, o + k * 5 + 3, none⟩ = some (.int .u64 ev) ∧ w'.cell? ⟨s, o + k * 5 + 4, none⟩ = some (.int .i64 em))) (by kernel_rfl) (HZ.out _ (Below.refl _ _).drew) (fun hHeld => ?_)
            refine tk 0 rfl ?_; simp only [zz]
            refine tk 1 rfl ?_; simp only [zz]
            refine tk 2 rfl ?_; simp only [zz]
            refine tk 3 rfl ?_; simp only [zz]
            refine tk 4 rfl ?_; simp only [zz]
            refine tk 5 rfl ?_; simp only [zz]
            refine tk 6 rfl ?_; simp only [zz]
            refine wpAnyH_ready (rs := [7]) (by kernel_rfl) (by simp) ?_
            refine AllReadyH.cons rfl (fun K hK => ?_) AllReadyH.nil
            simp only [z1, z2, z3]
            go_simp
            refine HC.out.mono ?_
            rintro e w5 ⟨rfl, hB5⟩
            have hX5 : Below wb.heap.size wb w5 := ((Below.refl wb.heap.size wb).drew).trans hB5
            refine hK.out _ _ (HZ.out w5 hX5) (fun hHeld => ?_)
            clear hK K
            try simp only [zz]
            refine tk 8 rfl ?_; simp only [zz]
            refine wpAnyH_done (by kernel_rfl) ?_ _
            go_wp2_with fail
            go_roundg (g.evs.length - (k + 1))
            case measure => have := HKG.out; omega
            case rel =>
              refine ⟨k + 1, by go_num, by omega, by omega, by have := HKG.out; rw [Hid]; omega, fun j h1 h2 => ?_, HW3.out.trans (hX5.mono HW3.out.size)⟩
              by_cases e : j = k
              · subst e; rw [HEV.out, HOK.out]; rfl
              · exact HALL3.out j h1 (by omega)
        · obtain rfl : k = g.evs.length := by omega
          have H3 : Hid (bad3 g q = -1) := by
            rw [Hid, bad3, HN.out, Int.toNat_natCast]
            exact fstBad_none (fun j h1 h2 => by have := HALL3.out j h1 (by omega); rwa [HN.out] at this)
          have H3L := hid_of (rl_up H2L.out (show rl g q 2 = _ from H3.out))
          clear c1 K0
          have c0 : wb.cell? ⟨w.heap.size, 0, none⟩ = some (.int .i64 g.cells) := HGb.out.cell rfl
          have c1 : wb.cell? ⟨w.heap.size, 1, none⟩ = some (.slice pe g.evs.length ce) := HGb.out.cell rfl
          have c2 : wb.cell? ⟨w.heap.size, 2, none⟩ = some (Vr) := HGb.out.cell rfl
          have c3 : wb.cell? ⟨w.heap.size, 3, none⟩ = some (Vc) := HGb.out.cell rfl
          have c4 : wb.cell? ⟨w.heap.size, 4, none⟩ = some (Vm) := HGb.out.cell rfl
          have c5 : wb.cell? ⟨w.heap.size, 5, none⟩ = some (.slice p5 g.addr.length k5) := HGb.out.cell rfl
          have c6 : wb.cell? ⟨w.heap.size, 6, none⟩ = some (.slice p6 g.dat.length k6) := HGb.out.cell rfl
          have c7 : wb.cell? ⟨w.heap.size, 7, none⟩ = some (.slice p7 g.ctrl.length k7) := HGb.out.cell rfl
          have HD4 := hid_of (r8rf_calls ⟨.slice pe g.evs.length ce, Vr, Vc, Vm, .slice p5 g.addr.length k5, .slice p6 g.dat.length k6, .slice p7 g.ctrl.length k7⟩ g wb (H.out.below HBb.out) hl256)
          unfold GrV.val at HD4
          dsimp only at HD4
          obtain ⟨x4, hx4⟩ : ∃ x, bad4 g = x := ⟨_, rfl⟩
          have HX4 := hid_of hx4
          have T4 := bad4_two g
          rw [hx4] at HD4 T4
          clear hx4
          go_wp2_with fail
          refine HD4.out.mono ?_
          rintro e w4 ⟨rfl, hD4⟩
          clear c0 c1 c2 c3 c4 c5 c6 c7
          have HB4 : Hid (Below w.heap.size w w4) := below_step HBb.out HBb.out.size hD4
          have HV4 : Hid (Below W0.heap.size W0 w4) := below_step HW3.out HW3.out.size hD4
          have HG4 := hid_of (HG.out.of_below HV4.out)
          by_cases n4 : x4 = -1
          case neg =>
            have t4 : (0 : Int) ≤ x4 := T4.resolve_left n4
            obtain ⟨rfl, rfl⟩ := chk_is HR.out (chk_at (k := 3) (by omega) H3L.out (show rl g q 3 = _ from HX4.out) n4)
            clear T4 n4
            go_wp2_with fail
            go_ret2
            exact ⟨rfl, HB4.out⟩
          subst n4
          have H4L := hid_of (rl_up H3L.out (show rl g q 3 = _ from HX4.out))
          clear T4
          have c0 : w4.cell? ⟨w.heap.size, 0, none⟩ = some (.int .i64 g.cells) := HG4.out.cell rfl
          have c1 : w4.cell? ⟨w.heap.size, 1, none⟩ = some (.slice pe g.evs.length ce) := HG4.out.cell rfl
          have c2 : w4.cell? ⟨w.heap.size, 2, none⟩ = some (Vr) := HG4.out.cell rfl
          have c3 : w4.cell? ⟨w.heap.size, 3, none⟩ = some (Vc) := HG4.out.cell rfl
          have c4 : w4.cell? ⟨w.heap.size, 4, none⟩ = some (Vm) := HG4.out.cell rfl
          have c5 : w4.cell? ⟨w.heap.size, 5, none⟩ = some (.slice p5 g.addr.length k5) := HG4.out.cell rfl
          have c6 : w4.cell? ⟨w.heap.size, 6, none⟩ = some (.slice p6 g.dat.length k6) := HG4.out.cell rfl
          have c7 : w4.cell? ⟨w.heap.size, 7, none⟩ = some (.slice p7 g.ctrl.length k7) := HG4.out.cell rfl
          have HD5 := hid_of (r8co_calls ⟨.slice pe g.evs.length ce, Vr, Vc, Vm, .slice p5 g.addr.length k5, .slice p6 g.dat.length k6, .slice p7 g.ctrl.length k7⟩ g q w4 (H.out.below HB4.out) H1.out H2.out)
          unfold GrV.val at HD5
          dsimp only at HD5
          obtain ⟨x5, hx5⟩ : ∃ x, bad5 g = x := ⟨_, rfl⟩
          have HX5 := hid_of hx5
          have T5 := bad5_two H1.out
          rw [hx5] at HD5 T5
          clear hx5
          go_wp2_with fail
          refine HD5.out.mono ?_
          rintro e w5 ⟨rfl, hD5⟩
          clear c0 c1 c2 c3 c4 c5 c6 c7
          have HB5 : Hid (Below w.heap.size w w5) := below_step HB4.out HB4.out.size hD5
          have HV5 : Hid (Below W0.heap.size W0 w5) := below_step HV4.out HV4.out.size hD5
          have HG5 := hid_of (HG.out.of_below HV5.out)
          by_cases n5 : x5 = -1
          case neg =>
            have t5 : (0 : Int) ≤ x5 := T5.resolve_left n5
            obtain ⟨rfl, rfl⟩ := chk_is HR.out (chk_at (k := 4) (by omega) H4L.out (show rl g q 4 = _ from HX5.out) n5)
            clear T5 n5
            go_wp2_with fail
            go_ret2
            exact ⟨rfl, HB5.out⟩
          subst n5
          have H5L := hid_of (rl_up H4L.out (show rl g q 4 = _ from HX5.out))
          clear T5
          have c0 : w5.cell? ⟨w.heap.size, 0, none⟩ = some (.int .i64 g.cells) := HG5.out.cell rfl
          have c1 : w5.cell? ⟨w.heap.size, 1, none⟩ = some (.slice pe g.evs.length ce) := HG5.out.cell rfl
          have c2 : w5.cell? ⟨w.heap.size, 2, none⟩ = some (Vr) := HG5.out.cell rfl
          have c3 : w5.cell? ⟨w.heap.size, 3, none⟩ = some (Vc) := HG5.out.cell rfl
          have c4 : w5.cell? ⟨w.heap.size, 4, none⟩ = some (Vm) := HG5.out.cell rfl
          have c5 : w5.cell? ⟨w.heap.size, 5, none⟩ = some (.slice p5 g.addr.length k5) := HG5.out.cell rfl
          have c6 : w5.cell? ⟨w.heap.size, 6, none⟩ = some (.slice p6 g.dat.length k6) := HG5.out.cell rfl
          have c7 : w5.cell? ⟨w.heap.size, 7, none⟩ = some (.slice p7 g.ctrl.length k7) := HG5.out.cell rfl
          have HD6 := hid_of (r8rmw_calls ⟨.slice pe g.evs.length ce, Vr, Vc, Vm, .slice p5 g.addr.length k5, .slice p6 g.dat.length k6, .slice p7 g.ctrl.length k7⟩ g w5 (H.out.below HB5.out) hl256 (thr_ok H2.out H3.out))
          unfold GrV.val at HD6
          dsimp only at HD6
          obtain ⟨x6, hx6⟩ : ∃ x, bad6 g = x := ⟨_, rfl⟩
          have HX6 := hid_of hx6
          have T6 := bad6_two g
          rw [hx6] at HD6 T6
          clear hx6
          go_wp2_with fail
          refine HD6.out.mono ?_
          rintro e w6 ⟨rfl, hD6⟩
          clear c0 c1 c2 c3 c4 c5 c6 c7
          have HB6 : Hid (Below w.heap.size w w6) := below_step HB5.out HB5.out.size hD6
          have HV6 : Hid (Below W0.heap.size W0 w6) := below_step HV5.out HV5.out.size hD6
          have HG6 := hid_of (HG.out.of_below HV6.out)
          by_cases n6 : x6 = -1
          case neg =>
            have t6 : (0 : Int) ≤ x6 := T6.resolve_left n6
            obtain ⟨rfl, rfl⟩ := chk_is HR.out (chk_at (k := 5) (by omega) H5L.out (show rl g q 5 = _ from HX6.out) n6)
            clear T6 n6
            go_wp2_with fail
            go_ret2
            exact ⟨rfl, HB6.out⟩
          subst n6
          have H6L := hid_of (rl_up H5L.out (show rl g q 5 = _ from HX6.out))
          clear T6
          have c5 : w6.cell? ⟨w.heap.size, 5, none⟩ = some (.slice p5 g.addr.length k5) := HG6.out.cell rfl
          have c6 : w6.cell? ⟨w.heap.size, 6, none⟩ = some (.slice p6 g.dat.length k6) := HG6.out.cell rfl
          have c7 : w6.cell? ⟨w.heap.size, 7, none⟩ = some (.slice p7 g.ctrl.length k7) := HG6.out.cell rfl
          go_upto_region 28 with fail
          have hbs := Blk.new w6 23 #[.slice p5 g.addr.length k5, .slice p6 g.dat.length k6, .slice p7 g.ctrl.length k7]
          have hBs : Below w6.heap.size w6 (w6.alloc (.cells #[.slice p5 g.addr.length k5, .slice p6 g.dat.length k6, .slice p7 g.ctrl.length k7] 23)) := (Below.refl _ _).alloc (Nat.le_refl _) _
          have HS := hid_of hbs
          have HV7 : Hid (Below W0.heap.size W0 (w6.alloc (.cells #[.slice p5 g.addr.length k5, .slice p6 g.dat.length k6, .slice p7 g.ctrl.length k7] 23))) := below_step HV6.out HV6.out.size hBs
          have HB7 : Hid (Below w.heap.size w (w6.alloc (.cells #[.slice p5 g.addr.length k5, .slice p6 g.dat.length k6, .slice p7 g.ctrl.length k7] 23))) := below_step HB6.out HB6.out.size hBs
          clear hbs hBs c5 c6 c7 hD4 hD5 hD6
          generalize w6.alloc (.cells #[.slice p5 g.addr.length k5, .slice p6 g.dat.length k6, .slice p7 g.ctrl.length k7] 23) = W7 at *
          generalize w6.heap.size = bs at *
          go_loopg [11] 3 (fun f v11 wr => ∃ k : Nat, v11 = .int .i64 ((k : Nat) : Int) ∧ k ≤ 3 ∧ Hid (k + f = 3) ∧ Hid (∀ j, j < 6 + k → rl g q j = -1) ∧ Hid (Below W7.heap.size W7 wr))
          case atStart => exact ⟨0, rfl, by omega, rfl, H6L.out, Below.refl _ _⟩
          case round =>
            obtain ⟨k, rfl, hk3, HKH, HRL, HW8⟩ := hrel
            clear HBb HGb HW3
            generalize hwb2 : wr = wb at *
            clear hwb2
            have HBb : Hid (Below w.heap.size w wb) := below_step HB7.out HB7.out.size HW8.out
            have HGb := hid_of (HG.out.of_below (below_step HV7.out HV7.out.size HW8.out))
            have HSb := hid_of (HS.out.of_below HW8.out)
            have K0 : (0 : Int) ≤ ((k : Nat) : Int) := by omega
            by_cases hlt3 : k < 3
            · have K1 : ((k : Nat) : Int) < 3 := by omega
              obtain ⟨pk, lk, ck, ks, hck, hpk, hwk, hrk, hlk⟩ : ∃ (pk : Option Addr) (lk : List (Int × Int)) (ck : Nat) (ks : List Int), (#[.slice p5 g.addr.length k5, .slice p6 g.dat.length k6, .slice p7 g.ctrl.length k7] : Array Value)[k]? = some (.slice pk lk.length ck) ∧ PArg w (.slice pk lk.length ck) lk ∧ WhKs (7 + ((k : Nat) : Int)) ks ∧ rl g q (6 + k) = badD g.evs q lk ks ∧ lk.length ≤ 9223372036854775807 := by
                obtain rfl | rfl | rfl : k = 0 ∨ k = 1 ∨ k = 2 := by omega
                · exact ⟨p5, g.addr, k5, [1, 2], rfl, H.out.addr, .inl ⟨rfl, rfl⟩, rfl, hl5⟩
                · exact ⟨p6, g.dat, k6, [2], rfl, H.out.dat, .inr (.inl ⟨rfl, rfl⟩), rfl, hl6⟩
                · exact ⟨p7, g.ctrl, k7, [1, 2, 3], rfl, H.out.ctrl, .inr (.inr ⟨rfl, rfl⟩), rfl, hl7⟩
              have HRK := hid_of hrk
              have HC := hid_of (r8deps_calls ⟨.slice pe g.evs.length ce, Vr, Vc, Vm, .slice p5 g.addr.length k5, .slice p6 g.dat.length k6, .slice p7 g.ctrl.length k7⟩ g (.slice pk lk.length ck) lk (7 + ((k : Nat) : Int)) ks wb.drew (H.out.below HBb.out.drew) (hpk.below HBb.out.drew) hl256 (thr_ok H2.out H3.out) (knd_ok H2.out H3.out) hwk)
              unfold GrV.val at HC
              dsimp only at HC
              obtain ⟨xd, hxd⟩ : ∃ x, badD g.evs true lk ks = x := ⟨_, rfl⟩
              have HXD := hid_of hxd
              have TD : Hid (xd = -1 ∨ 0 ≤ xd) := by rw [Hid, ← hxd]; exact fst_two
              rw [hxd] at HC
              have HZ : Hid (∀ W, Below wb.heap.size wb W → W.cell? ⟨w.heap.size, 0, none⟩ = some (.int .i64 g.cells) ∧ W.cell? ⟨w.heap.size, 1, none⟩ = some (.slice pe g.evs.length ce) ∧ W.cell? ⟨w.heap.size, 2, none⟩ = some (Vr) ∧ W.cell? ⟨w.heap.size, 3, none⟩ = some (Vc) ∧ W.cell? ⟨w.heap.size, 4, none⟩ = some (Vm) ∧ W.cell? ⟨w.heap.size, 5, none⟩ = some (.slice p5 g.addr.length k5) ∧ W.cell? ⟨w.heap.size, 6, none⟩ = some (.slice p6 g.dat.length k6) ∧ W.cell? ⟨w.heap.size, 7, none⟩ = some (.slice p7 g.ctrl.length k7) ∧ W.cell? ⟨bs, k, none⟩ = some (.slice pk lk.length ck)) := fun W hW => ⟨(HGb.out.of_below hW).cell rfl, (HGb.out.of_below hW).cell rfl, (HGb.out.of_below hW).cell rfl, (HGb.out.of_below hW).cell rfl, (HGb.out.of_below hW).cell rfl, (HGb.out.of_below hW).cell rfl, (HGb.out.of_below hW).cell rfl, (HGb.out.of_below hW).cell rfl, (HSb.out.of_below hW).cell hck⟩
              have W7k : IntKind.i64.wrap (7 + ((k : Nat) : Int)) = 7 + ((k : Nat) : Int) := by
                have := wrap_small' (j := 7 + k) (by omega)
                rwa [Int.natCast_add] at this
              clear hxd hrk hwk hpk hck
              go_upto_region 30 with fail
              generalize hgbn : w.heap.size = gb at *
              generalize hcl : g.cells = cl at *
              refine wp_region_held_drew (S := (fun w' => w'.cell? ⟨gb, 0, none⟩ = some (.int .i64 cl) ∧ w'.cell? ⟨gb, 1, none⟩ = some (.slice pe g.evs.length ce) ∧ w'.cell? ⟨gb, 2, none⟩ = some (Vr) ∧ w'.cell? ⟨gb, 3, none⟩ = some (Vc) ∧ w'.cell? ⟨gb, 4, none⟩ = some (Vm) ∧ w'.cell? ⟨gb, 5, none⟩ = some (.slice p5 g.addr.length k5) ∧ w'.cell? ⟨gb, 6, none⟩ = some (.slice p6 g.dat.length k6) ∧ w'.cell? ⟨gb, 7, none⟩ = some (.slice p7 g.ctrl.length k7) ∧ w'.cell? ⟨bs, k, none⟩ = some (.slice pk lk.length ck))) (by kernel_rfl) (HZ.out _ (Below.refl _ _).drew) (fun hHeld => ?_)
              refine tk 0 rfl ?_; simp only [zz]
              refine tk 1 rfl ?_; simp only [zz]
              refine tk 2 rfl ?_; simp only [zz]
              refine tk 3 rfl ?_; simp only [zz]
              refine tk 4 rfl ?_; simp only [zz]
              refine tk 5 rfl ?_; simp only [zz]
              refine tk 6 rfl ?_; simp only [zz]
              refine wpAnyH_ready (rs := [7]) (by kernel_rfl) (by simp) ?_
              refine AllReadyH.cons rfl (fun K hK => ?_) AllReadyH.nil
              simp only [z1, z2, z3]
              go_simp
              refine HC.out.mono ?_
              rintro e w5 ⟨rfl, hB5⟩
              have hX5 : Below wb.heap.size wb w5 := ((Below.refl wb.heap.size wb).drew).trans hB5
              refine hK.out _ _ (HZ.out w5 hX5) (fun hHeld => ?_)
              clear hK K
              try simp only [zz]
              refine tk 8 rfl ?_; simp only [zz]
              refine wpAnyH_done (by kernel_rfl) ?_ _
              have HW9 : Hid (Below W7.heap.size W7 w5) := HW8.out.trans (hX5.mono HW8.out.size)
              have HBX : Hid (Below gb w w5) := HBb.out.trans (hX5.mono (by rw [← hgbn]; exact HBb.out.size))
              have y9 : w5.cell? ⟨bs, k, none⟩ = some (.slice pk lk.length ck) := (HZ.out w5 hX5).2.2.2.2.2.2.2.2
              clear hHeld
              cases q
              · by_cases l0 : 0 < lk.length
                · have L1 : (0 : Int) < ((lk.length : Nat) : Int) := by omega
                  obtain ⟨rfl, rfl⟩ := chk_is HR.out (chk_dep hlt3 HRL.out (HRK.out.trans (badD_no l0)) (by omega))
                  go_wp2_with fail
                  go_ret2
                  exact ⟨rfl, by first | exact HBX.out | (rw [hgbn]; exact HBX.out)⟩
                · have L1 : ¬ ((0 : Int) < ((lk.length : Nat) : Int)) := by omega
                  obtain rfl : xd = -1 := HXD.out.symm.trans (badD_nil l0)
                  have HRL2 := hid_of (rl_up HRL.out (HRK.out.trans (badD_nil l0)))
                  go_wp2_with fail
                  go_roundg (3 - (k + 1))
                  case measure => have := HKH.out; omega
                  case rel => exact ⟨k + 1, by go_num, by omega, by have := HKH.out; rw [Hid]; omega, HRL2.out, HW9.out⟩
              · by_cases nd : xd = -1
                · subst nd
                  have HRL2 := hid_of (rl_up HRL.out (HRK.out.trans HXD.out))
                  go_wp2_with fail
                  go_roundg (3 - (k + 1))
                  case measure => have := HKH.out; omega
                  case rel => exact ⟨k + 1, by go_num, by omega, by have := HKH.out; rw [Hid]; omega, HRL2.out, HW9.out⟩
                · have td : (0 : Int) ≤ xd := TD.out.resolve_left nd
                  obtain ⟨rfl, rfl⟩ := chk_is HR.out (chk_dep hlt3 HRL.out (HRK.out.trans HXD.out) nd)
                  clear nd
                  go_wp2_with fail
                  go_ret2
                  exact ⟨rfl, by first | exact HBX.out | (rw [hgbn]; exact HBX.out)⟩
            · obtain rfl : k = 3 := by omega
              obtain ⟨rfl, rfl⟩ := chk_is HR.out (chk_none HRL.out)
              go_wp2_with fail
              go_ret2
              exact ⟨rfl, HBb.out⟩
end Go.Proofs.YthiijcappjaagaaGreatDoor
namespace Go.Proofs.YthiijcappjaagaaGreatDoor
open Go.RowKit Go.Shelf Sx
set_option linter.unusedSimpArgs false in
set_option maxRecDepth 100000 in
set_option maxHeartbeats 16000000 in
theorem r8Alike_calls (V U : GrV) (g : Gr) (w : World) (h : GrR w V g) (h2 : GrR w U g) : Calls Tryz.prog 10 #[V.val g, U.val g] w fun r w' => r = .returned (.bool true) ∧ Below w.heap.size w w' := by
  obtain ⟨Va1, Va2, Va3, Va4, Va5, Va6, Va7⟩ := V
  obtain ⟨Vb1, Vb2, Vb3, Vb4, Vb5, Vb6, Vb7⟩ := U
  obtain ⟨p1a, k1a, e1a, hea, hxa⟩ := h.ev
  obtain ⟨p2a, k2a, e2a, _, _⟩ := parg_form h.rf
  obtain ⟨p4a, k4a, e4a, _, _⟩ := parg_form h.rmw
  obtain ⟨p5a, k5a, e5a, _, _⟩ := parg_form h.addr
  obtain ⟨p6a, k6a, e6a, _, _⟩ := parg_form h.dat
  obtain ⟨p7a, k7a, e7a, _, _⟩ := parg_form h.ctrl
  obtain ⟨p3a, k3a, e3a, hcla, hcoa⟩ := coarg_form h.co
  dsimp only at e1a e2a e3a e4a e5a e6a e7a
  subst e1a
  subst e2a
  subst e3a
  subst e4a
  subst e5a
  subst e6a
  subst e7a
  have HEa := hid_of hea
  have HCa := hid_of hcoa
  have Ha := hid_of h
  obtain ⟨p1b, k1b, e1b, heb, hxb⟩ := h2.ev
  obtain ⟨p2b, k2b, e2b, _, _⟩ := parg_form h2.rf
  obtain ⟨p4b, k4b, e4b, _, _⟩ := parg_form h2.rmw
  obtain ⟨p5b, k5b, e5b, _, _⟩ := parg_form h2.addr
  obtain ⟨p6b, k6b, e6b, _, _⟩ := parg_form h2.dat
  obtain ⟨p7b, k7b, e7b, _, _⟩ := parg_form h2.ctrl
  obtain ⟨p3b, k3b, e3b, hclb, hcob⟩ := coarg_form h2.co
  dsimp only at e1b e2b e3b e4b e5b e6b e7b
  subst e1b
  subst e2b
  subst e3b
  subst e4b
  subst e5b
  subst e6b
  subst e7b
  have HEb := hid_of heb
  have HCb := hid_of hcob
  have Hb := hid_of h2
  have hlen : g.evs.length ≤ 9223372036854775807 := by omega
  have hB : Below w.heap.size w ((w.alloc (.cells #[.int .i64 g.cells, .slice p1a g.evs.length k1a, .slice p2a g.rf.length k2a, .slice p3a g.co.length k3a, .slice p4a g.rmw.length k4a, .slice p5a g.addr.length k5a, .slice p6a g.dat.length k6a, .slice p7a g.ctrl.length k7a] 26)).alloc (.cells #[.int .i64 g.cells, .slice p1b g.evs.length k1b, .slice p2b g.rf.length k2b, .slice p3b g.co.length k3b, .slice p4b g.rmw.length k4b, .slice p5b g.addr.length k5b, .slice p6b g.dat.length k6b, .slice p7b g.ctrl.length k7b] 26)) := ((Below.refl _ _).alloc (Nat.le_refl _) _).alloc (by simp) _
  have hba : Blk ((w.alloc (.cells #[.int .i64 g.cells, .slice p1a g.evs.length k1a, .slice p2a g.rf.length k2a, .slice p3a g.co.length k3a, .slice p4a g.rmw.length k4a, .slice p5a g.addr.length k5a, .slice p6a g.dat.length k6a, .slice p7a g.ctrl.length k7a] 26)).alloc (.cells #[.int .i64 g.cells, .slice p1b g.evs.length k1b, .slice p2b g.rf.length k2b, .slice p3b g.co.length k3b, .slice p4b g.rmw.length k4b, .slice p5b g.addr.length k5b, .slice p6b g.dat.length k6b, .slice p7b g.ctrl.length k7b] 26)) w.heap.size 26 #[.int .i64 g.cells, .slice p1a g.evs.length k1a, .slice p2a g.rf.length k2a, .slice p3a g.co.length k3a, .slice p4a g.rmw.length k4a, .slice p5a g.addr.length k5a, .slice p6a g.dat.length k6a, .slice p7a g.ctrl.length k7a] := (Blk.new w 26 #[.int .i64 g.cells, .slice p1a g.evs.length k1a, .slice p2a g.rf.length k2a, .slice p3a g.co.length k3a, .slice p4a g.rmw.length k4a, .slice p5a g.addr.length k5a, .slice p6a g.dat.length k6a, .slice p7a g.ctrl.length k7a]).alloc _
  have hbb := Blk.new (w.alloc (.cells #[.int .i64 g.cells, .slice p1a g.evs.length k1a, .slice p2a g.rf.length k2a, .slice p3a g.co.length k3a, .slice p4a g.rmw.length k4a, .slice p5a g.addr.length k5a, .slice p6a g.dat.length k6a, .slice p7a g.ctrl.length k7a] 26)) 26 #[.int .i64 g.cells, .slice p1b g.evs.length k1b, .slice p2b g.rf.length k2b, .slice p3b g.co.length k3b, .slice p4b g.rmw.length k4b, .slice p5b g.addr.length k5b, .slice p6b g.dat.length k6b, .slice p7b g.ctrl.length k7b]
  rw [World.size_alloc] at hbb
  unfold GrV.val
  dsimp only
  clear h h2 hea heb hcoa hcob hxa hxb
  go_enter Tryz.func10, Tryz.ntmps10
  go_upto_region 1 with fail
  have HB := hid_of hB
  have HGa := hid_of hba
  have HGb := hid_of hbb
  generalize (w.alloc (.cells #[.int .i64 g.cells, .slice p1a g.evs.length k1a, .slice p2a g.rf.length k2a, .slice p3a g.co.length k3a, .slice p4a g.rmw.length k4a, .slice p5a g.addr.length k5a, .slice p6a g.dat.length k6a, .slice p7a g.ctrl.length k7a] 26)).alloc (.cells #[.int .i64 g.cells, .slice p1b g.evs.length k1b, .slice p2b g.rf.length k2b, .slice p3b g.co.length k3b, .slice p4b g.rmw.length k4b, .slice p5b g.addr.length k5b, .slice p6b g.dat.length k6b, .slice p7b g.ctrl.length k7b] 26) = W0 at *
  clear hba hbb hB
  have c0a : W0.cell? ⟨w.heap.size, 0, none⟩ = some (.int .i64 g.cells) := (HGa.out.of_below (Below.refl _ _)).cell rfl
  have c1a : W0.cell? ⟨w.heap.size, 1, none⟩ = some (.slice p1a g.evs.length k1a) := (HGa.out.of_below (Below.refl _ _)).cell rfl
  have c3a : W0.cell? ⟨w.heap.size, 3, none⟩ = some (.slice p3a g.co.length k3a) := (HGa.out.of_below (Below.refl _ _)).cell rfl
  have c2a : W0.cell? ⟨w.heap.size, 2, none⟩ = some (.slice p2a g.rf.length k2a) := (HGa.out.of_below (Below.refl _ _)).cell rfl
  have c0b : W0.cell? ⟨w.heap.size + 1, 0, none⟩ = some (.int .i64 g.cells) := (HGb.out.of_below (Below.refl _ _)).cell rfl
  have c1b : W0.cell? ⟨w.heap.size + 1, 1, none⟩ = some (.slice p1b g.evs.length k1b) := (HGb.out.of_below (Below.refl _ _)).cell rfl
  have c3b : W0.cell? ⟨w.heap.size + 1, 3, none⟩ = some (.slice p3b g.co.length k3b) := (HGb.out.of_below (Below.refl _ _)).cell rfl
  have c2b : W0.cell? ⟨w.heap.size + 1, 2, none⟩ = some (.slice p2b g.rf.length k2b) := (HGb.out.of_below (Below.refl _ _)).cell rfl
  have qc : (g.cells != g.cells) = false := by simp
  have qe : (((g.evs.length : Nat) : Int) != ((g.evs.length : Nat) : Int)) = false := by simp
  have qo : (((g.co.length : Nat) : Int) != ((g.co.length : Nat) : Int)) = false := by simp
  have D2 := hid_of (r8pairs_calls (.slice p2a g.rf.length k2a) (.slice p2b g.rf.length k2b) g.rf g.rf W0 (Ha.out.rf.below HB.out) (Hb.out.rf.below HB.out))
  rw [decide_eq_true rfl] at D2
  go_wp2_with fail
  refine D2.out.mono ?_
  rintro e w2 ⟨rfl, hD2⟩
  clear c0a c0b c1a c1b c3a c3b c2a c2b
  have HB2 : Hid (Below w.heap.size w w2) := below_step HB.out HB.out.size hD2
  have HW2 : Hid (Below W0.heap.size W0 w2) := hD2
  clear hD2
  have D4 := hid_of (r8pairs_calls (.slice p4a g.rmw.length k4a) (.slice p4b g.rmw.length k4b) g.rmw g.rmw w2 (Ha.out.rmw.below HB2.out) (Hb.out.rmw.below HB2.out))
  rw [decide_eq_true rfl] at D4
  have c4a : w2.cell? ⟨w.heap.size, 4, none⟩ = some (.slice p4a g.rmw.length k4a) := (HGa.out.of_below HW2.out).cell rfl
  have c4b : w2.cell? ⟨w.heap.size + 1, 4, none⟩ = some (.slice p4b g.rmw.length k4b) := (HGb.out.of_below HW2.out).cell rfl
  go_wp2_with fail
  refine D4.out.mono ?_
  rintro e w4 ⟨rfl, hD4⟩
  clear c4a c4b
  have HB4 : Hid (Below w.heap.size w w4) := below_step HB2.out HB2.out.size hD4
  have HW4 : Hid (Below W0.heap.size W0 w4) := below_step HW2.out HW2.out.size hD4
  clear hD4
  have D5 := hid_of (r8pairs_calls (.slice p5a g.addr.length k5a) (.slice p5b g.addr.length k5b) g.addr g.addr w4 (Ha.out.addr.below HB4.out) (Hb.out.addr.below HB4.out))
  rw [decide_eq_true rfl] at D5
  have c5a : w4.cell? ⟨w.heap.size, 5, none⟩ = some (.slice p5a g.addr.length k5a) := (HGa.out.of_below HW4.out).cell rfl
  have c5b : w4.cell? ⟨w.heap.size + 1, 5, none⟩ = some (.slice p5b g.addr.length k5b) := (HGb.out.of_below HW4.out).cell rfl
  go_wp2_with fail
  refine D5.out.mono ?_
  rintro e w5 ⟨rfl, hD5⟩
  clear c5a c5b
  have HB5 : Hid (Below w.heap.size w w5) := below_step HB4.out HB4.out.size hD5
  have HW5 : Hid (Below W0.heap.size W0 w5) := below_step HW4.out HW4.out.size hD5
  clear hD5
  have D6 := hid_of (r8pairs_calls (.slice p6a g.dat.length k6a) (.slice p6b g.dat.length k6b) g.dat g.dat w5 (Ha.out.dat.below HB5.out) (Hb.out.dat.below HB5.out))
  rw [decide_eq_true rfl] at D6
  have c6a : w5.cell? ⟨w.heap.size, 6, none⟩ = some (.slice p6a g.dat.length k6a) := (HGa.out.of_below HW5.out).cell rfl
  have c6b : w5.cell? ⟨w.heap.size + 1, 6, none⟩ = some (.slice p6b g.dat.length k6b) := (HGb.out.of_below HW5.out).cell rfl
  go_wp2_with fail
  refine D6.out.mono ?_
  rintro e w6 ⟨rfl, hD6⟩
  clear c6a c6b
  have HB6 : Hid (Below w.heap.size w w6) := below_step HB5.out HB5.out.size hD6
  have HW6 : Hid (Below W0.heap.size W0 w6) := below_step HW5.out HW5.out.size hD6
  clear hD6
  have D7 := hid_of (r8pairs_calls (.slice p7a g.ctrl.length k7a) (.slice p7b g.ctrl.length k7b) g.ctrl g.ctrl w6 (Ha.out.ctrl.below HB6.out) (Hb.out.ctrl.below HB6.out))
  rw [decide_eq_true rfl] at D7
  have c7a : w6.cell? ⟨w.heap.size, 7, none⟩ = some (.slice p7a g.ctrl.length k7a) := (HGa.out.of_below HW6.out).cell rfl
  have c7b : w6.cell? ⟨w.heap.size + 1, 7, none⟩ = some (.slice p7b g.ctrl.length k7b) := (HGb.out.of_below HW6.out).cell rfl
  go_wp2_with fail
  refine D7.out.mono ?_
  rintro e w7 ⟨rfl, hD7⟩
  clear c7a c7b
  have HB7 : Hid (Below w.heap.size w w7) := below_step HB6.out HB6.out.size hD7
  have HW7 : Hid (Below W0.heap.size W0 w7) := below_step HW6.out HW6.out.size hD7
  clear hD7
  go_wp2_with fail
  go_loopg [5] g.evs.length (fun f v5 wr => ∃ i : Nat, v5 = .int .i64 ((i : Nat) : Int) ∧ i ≤ g.evs.length ∧ Hid (i + f = g.evs.length) ∧ Hid (Below W0.heap.size W0 wr))
  case atStart => exact ⟨0, rfl, Nat.zero_le _, Nat.zero_add _, HW7.out⟩
  case round =>
    obtain ⟨i, rfl, hi, HKF, HW⟩ := hrel
    generalize hwx : wr = wx at *
    clear hwx
    have HBx : Hid (Below w.heap.size w wx) := below_step HB.out HB.out.size HW.out
    have c1a : wx.cell? ⟨w.heap.size, 1, none⟩ = some (.slice p1a g.evs.length k1a) := (HGa.out.of_below HW.out).cell rfl
    have c1b : wx.cell? ⟨w.heap.size + 1, 1, none⟩ = some (.slice p1b g.evs.length k1b) := (HGb.out.of_below HW.out).cell rfl
    have I0 : (0 : Int) ≤ ((i : Nat) : Int) := by omega
    by_cases hil : i < g.evs.length
    · have I1 : ((i : Nat) : Int) < ((g.evs.length : Nat) : Int) := by omega
      obtain ⟨sa, oa, rfl, hata⟩ := HEa.out (by omega)
      obtain ⟨sb, ob, rfl, hatb⟩ := HEb.out (by omega)
      have hA := hata.below HBx.out
      have hD := hatb.below HBx.out
      have he := Gr.ev_at hil
      have x0 := hA.c0 i _ he
      have x1 := hA.c1 i _ he
      have x2 := hA.c2 i _ he
      have x3 := hA.c3 i _ he
      have x4 := hA.c4 i _ he
      have y0 := hD.c0 i _ he
      have y1 := hD.c1 i _ he
      have y2 := hD.c2 i _ he
      have y3 := hD.c3 i _ he
      have y4 := hD.c4 i _ he
      clear hA hD he hata hatb
      generalize g.ev i = ek at *
      obtain ⟨et, ek', el, ev, em⟩ := ek
      dsimp only at x0 x1 x2 x3 x4 y0 y1 y2 y3 y4
      go_upto_region 6 with fail
      go_quiet (fail)
      go_wp2_with fail
      go_roundg (g.evs.length - (i + 1))
      case measure => have := HKF.out; omega
      case rel => exact ⟨i + 1, by go_num, by omega, by have := HKF.out; rw [Hid]; omega, below_drewN HW.out _⟩
    · obtain rfl : i = g.evs.length := by omega
      go_wp2_with fail
      clear c1a c1b I0
      go_loopg [6] g.co.length (fun f v6 wr => ∃ c : Nat, v6 = .int .i64 ((c : Nat) : Int) ∧ c ≤ g.co.length ∧ Hid (c + f = g.co.length) ∧ Hid (Below W0.heap.size W0 wr))
      case atStart => exact ⟨0, rfl, Nat.zero_le _, Nat.zero_add _, HW.out⟩
      case round =>
        obtain ⟨c, rfl, hc, HKG, HV⟩ := hrel
        generalize hwy : wr = wy at *
        clear hwy
        have HBy : Hid (Below w.heap.size w wy) := below_step HB.out HB.out.size HV.out
        have c3a : wy.cell? ⟨w.heap.size, 3, none⟩ = some (.slice p3a g.co.length k3a) := (HGa.out.of_below HV.out).cell rfl
        have c3b : wy.cell? ⟨w.heap.size + 1, 3, none⟩ = some (.slice p3b g.co.length k3b) := (HGb.out.of_below HV.out).cell rfl
        have C0 : (0 : Int) ≤ ((c : Nat) : Int) := by omega
        by_cases hcl : c < g.co.length
        · have C1 : ((c : Nat) : Int) < ((g.co.length : Nat) : Int) := by omega
          obtain ⟨l, hl⟩ : ∃ l, g.co[c]? = some l := ⟨_, List.getElem?_eq_getElem hcl⟩
          obtain ⟨sa, oa, ua, rfl, hsa, hua, hia, hll⟩ := HCa.out c l hl
          obtain ⟨sb, ob, ub, rfl, hsb, hub, hib, _⟩ := HCb.out c l hl
          obtain ⟨qa, ma, rfl, hqa⟩ := intsR_form hia
          obtain ⟨qb, mb, rfl, hqb⟩ := intsR_form hib
          have x0 : wy.cell? ⟨sa, oa + c, none⟩ = some (.slice qa l.length ma) := (HBy.out.cell (p := ⟨sa, oa + c, none⟩) hsa).trans hua
          have y0 : wy.cell? ⟨sb, ob + c, none⟩ = some (.slice qb l.length mb) := (HBy.out.cell (p := ⟨sb, ob + c, none⟩) hsb).trans hub
          have HQA := hid_of hqa
          have HQB := hid_of hqb
          have HUA := hid_of hua
          have HUB := hid_of hub
          clear hl hua hub hia hib hqa hqb
          have ql : (((l.length : Nat) : Int) != ((l.length : Nat) : Int)) = false := by simp
          go_upto_region 11 with fail
          go_quiet (fail)
          go_wp2_with fail
          clear x0 y0 c3a c3b
          go_loopg [7] l.length (fun f v7 wr => ∃ j : Nat, v7 = .int .i64 ((j : Nat) : Int) ∧ j ≤ l.length ∧ Hid (j + f = l.length) ∧ Hid (Below W0.heap.size W0 wr))
          case atStart => exact ⟨0, rfl, Nat.zero_le _, Nat.zero_add _, below_drewN HV.out _⟩
          case round =>
            obtain ⟨j, rfl, hj, HKH, HU⟩ := hrel
            generalize hwz : wr = wz at *
            clear hwz
            have HBz : Hid (Below w.heap.size w wz) := below_step HB.out HB.out.size HU.out
            have c3a : wz.cell? ⟨w.heap.size, 3, none⟩ = some (.slice (some ⟨sa, oa, none⟩) g.co.length k3a) := (HGa.out.of_below HU.out).cell rfl
            have c3b : wz.cell? ⟨w.heap.size + 1, 3, none⟩ = some (.slice (some ⟨sb, ob, none⟩) g.co.length k3b) := (HGb.out.of_below HU.out).cell rfl
            have x0 : wz.cell? ⟨sa, oa + c, none⟩ = some (.slice qa l.length ma) := (HBz.out.cell (p := ⟨sa, oa + c, none⟩) hsa).trans HUA.out
            have y0 : wz.cell? ⟨sb, ob + c, none⟩ = some (.slice qb l.length mb) := (HBz.out.cell (p := ⟨sb, ob + c, none⟩) hsb).trans HUB.out
            have J0 : (0 : Int) ≤ ((j : Nat) : Int) := by omega
            by_cases hjl : j < l.length
            · have J1 : ((j : Nat) : Int) < ((l.length : Nat) : Int) := by omega
              obtain ⟨ta, ra, rfl, hta, hka⟩ := HQA.out (by omega)
              obtain ⟨tb, rb, rfl, htb, hkb⟩ := HQB.out (by omega)
              obtain ⟨x, hx⟩ : ∃ x, l[j]? = some x := ⟨_, List.getElem?_eq_getElem hjl⟩
              have x1 : wz.cell? ⟨ta, ra + j, none⟩ = some (.int .i64 x) := (HBz.out.cell (p := ⟨ta, ra + j, none⟩) hta).trans (hka j x hx)
              have y1 : wz.cell? ⟨tb, rb + j, none⟩ = some (.int .i64 x) := (HBz.out.cell (p := ⟨tb, rb + j, none⟩) htb).trans (hkb j x hx)
              clear hx hka hkb
              have qx : ((x : Int) != x) = false := by simp
              go_upto_region 16 with fail
              go_quiet (fail)
              go_wp2_with fail
              go_roundg (l.length - (j + 1))
              case measure => have := HKH.out; omega
              case rel => exact ⟨j + 1, by go_num, by omega, by have := HKH.out; rw [Hid]; omega, below_drewN HU.out _⟩
            · obtain rfl : j = l.length := by omega
              go_wp2_with fail
              go_roundg (g.co.length - (c + 1))
              case measure => have := HKG.out; omega
              case rel => exact ⟨c + 1, by go_num, by omega, by have := HKG.out; rw [Hid]; omega, HU.out⟩
        · obtain rfl : c = g.co.length := by omega
          go_wp2_with fail
          go_ret
          exact ⟨rfl, HBy.out⟩
end Go.Proofs.YthiijcappjaagaaGreatDoor
