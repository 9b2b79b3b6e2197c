import Derived.Test.YtdkogbfamdnheaaGreatDoorJ30
import Derived.Test.YtdkogbfamdnheaaGreatDoorGLawM
namespace Go.Proofs.YtdkogbfamdnheaaGreatDoor
open Go.RowKit Go.Shelf Sx
set_option maxRecDepth 100000
set_option maxHeartbeats 16000000
set_option linter.unusedSimpArgs false
set_option linter.unusedVariables false
theorem Qhq {w w1 : World} {lo N r : Nat} {M : Value} {rb : Nat → Nat} {F : Nat → Nat → Bool} (hRM : RefM lo w1 M N N rb F) (hr : w.heap.size ≤ r) (hlo : r < lo) (hB : Below w.heap.size w w1) (u0 u1 : Value) :
  RefM w.heap.size ((w1.setCell ⟨r, 0, none⟩ u0).setCell ⟨r, 1, none⟩ u1) M N N rb F ∧ Below w.heap.size w ((w1.setCell ⟨r, 0, none⟩ u0).setCell ⟨r, 1, none⟩ u1) := by
 refine ⟨RefM.mono (hRM.below' fun g hg _ => ?_) oW, (hB.setCell (by simpa using hr) _).setCell (by simpa using hr) _⟩
 rw [Below.heap_setCell _ _ _ _ (by simp; omega), Below.heap_setCell _ _ _ _ (by simp; omega)]
theorem QC {n : Nat} {p q : Nat} (hp : p < n) (hq : q < n) : ∀ (l : List (Int × Int)), Qdd n l p q = Qbn l p q := by
 intro l
 have key : ∀ k, k ≤ l.length → Qdd n (l.take k) p q = Qbn (l.take k) p q := by
  intro k
  induction k with
  | zero => intro _; simp [Qdd, Qbn]
  | succ k ih =>
   intro hk
   obtain ⟨⟨x, y⟩, hx⟩ : ∃ z, l[k]? = some z := ⟨_, List.getElem?_eq_getElem oW⟩
   rw [← Qir hx, List.take_add_one, hx]
   have ih := ih oW
   unfold Qbn at ih ⊢
   simp only [Option.toList_some, List.mem_append, List.mem_singleton, Prod.mk.injEq]
   unfold Qm3
   by_cases hxy : (inR n x && inR n y) = true
   ·rw [if_pos hxy]
    rw [Bool.and_eq_true] at hxy
    obtain ⟨i, rfl, hi⟩ := Qdm hxy.1
    obtain ⟨j, rfl, hj⟩ := Qdm hxy.2
    unfold upd
    by_cases h : p = i ∧ q = j
    ·obtain ⟨rfl, rfl⟩ := h
     simp
    ·rw [if_neg (by simpa using h), ih, Bool.eq_iff_iff]
     simp only [decide_eq_true_eq]
     exact ⟨fun h1 => .inl h1, fun h1 => h1.elim id (fun h2 => absurd ⟨oW, oW⟩ h)⟩
   ·rw [if_neg hxy, ih, Bool.eq_iff_iff]
    simp only [decide_eq_true_eq]
    refine ⟨fun h1 => .inl h1, fun h1 => h1.elim id (fun h2 => absurd ?_ hxy)⟩
    rw [← h2.1, ← h2.2]
    simp [inR, hp, hq]
 have := key l.length nW
 rwa [List.take_length] at this
theorem Qke (V : GrV) (g : Gr) (v : Value) (l : List (Int × Int)) (w : World) (h : GrR w V g) (hv : PArg w v l) (hn : g.evs.length ≤ 256) : Calls Tryz.prog 47 #[V.val g, v] w fun e w' => ∃ M rb, e = .returned (.agg #[.int .i64 (g.evs.length : Int), M]) ∧ RefM w.heap.size w' M g.evs.length g.evs.length rb (Qbn l) ∧ Below w.heap.size w w' := by
 obtain ⟨Ve, Vr, Vc, Vm, Va, Vd, Vt⟩ := V
 obtain ⟨p1, k1, e1, hp, hlen, _⟩ := h.ev
 obtain ⟨p2, k2, e2, _, _⟩ := Qab h.rf
 obtain ⟨p4, k4, e4, _, _⟩ := Qab h.rmw
 obtain ⟨p5, k5, e5, _, _⟩ := Qab h.addr
 obtain ⟨p6, k6, e6, _, _⟩ := Qab h.dat
 obtain ⟨p7, k7, e7, _, _⟩ := Qab h.ctrl
 obtain ⟨p3, k3, e3, hcl, hco⟩ := Qbg h.co
 dsimp only at e1 e2 e3 e4 e5 e6 e7
 subst e1 e2 e3 e4 e5 e6 e7
 have HV := Qa h
 have HP := Qa hp
 have HCO := Qa hco
 obtain ⟨pv0, cv0, rfl, _, _⟩ := Qab hv
 have HPV := Qa hv
 clear hv
 have HG0 := Qa ((Blk.new w 27 (g8 g p1 k1 p2 k2 p3 k3 p4 k4 p5 k5 p6 k6 p7 k7)).alloc (.cells #[.int .i64 0, .slice none 0 0] 51))
 have HR0 := Qa (Blk.new2 w (.cells (g8 g p1 k1 p2 k2 p3 k3 p4 k4 p5 k5 p6 k6 p7 k7) 27) 51 #[.int .i64 0, .slice none 0 0])
 have HB0 : Hid (Below w.heap.size w ((w.alloc (.cells (g8 g p1 k1 p2 k2 p3 k3 p4 k4 p5 k5 p6 k6 p7 k7) 27)).alloc (.cells #[.int .i64 0, .slice none 0 0] 51))) := ((Below.refl _ w).alloc nW _).alloc sW _
 have HS0 : Hid (((w.alloc (.cells (g8 g p1 k1 p2 k2 p3 k3 p4 k4 p5 k5 p6 k6 p7 k7) 27)).alloc (.cells #[.int .i64 0, .slice none 0 0] 51)).heap.size = w.heap.size + 2) := by rw [Hid]; simp
 unfold GrV.val
 dsimp only
 clear h hp hco
 go_enter Tryz.func47, Tryz.ntmps47
 go_upto_region 1 with fail
 generalize ((w.alloc (.cells (g8 g p1 k1 p2 k2 p3 k3 p4 k4 p5 k5 p6 k6 p7 k7) 27)).alloc (.cells #[.int .i64 0, .slice none 0 0] 51)) = W0 at *
 have d1 : W0.cell? ⟨w.heap.size, 1, none⟩ = some (.slice p1 g.evs.length k1) := (HG0.out).cell rfl
 have D := Qa (Qum (g.evs.length : Int) _ l W0 (HPV.out.below HB0.out) oW oW)
 rw [Qei hn] at D
 go_wp2_with fail
 refine D.out.mono ?_
 rintro e w1 ⟨M, rb, rfl, hRM, hB1⟩
 obtain ⟨xm, ym, zm, rfl⟩ := hRM.slice
 clear d1 D
 have hRM := hRM.congr (G := Qbn l) (fun p q hp hq => QC hp hq l)
 have hr : Blk w1 (w.heap.size + 1) 51 #[.int .i64 0, .slice none 0 0] := HR0.out.of_below hB1
 have q0 := hr.cell (j := 0) rfl
 have q1 := hr.cell (j := 1) rfl
 have f0 := hr.frozen 0
 have f1 := hr.frozen 1
 go_wp2_with fail
 have hres := (hr.set 0 (.int .i64 (g.evs.length : Int))).set 1 (.slice xm ym zm)
 simp only [List.setIfInBounds_toArray, List.set_cons_zero, List.set_cons_succ] at hres
 (try simp only [Exit.inBlock, Exit.then])
 refine bodyPost_ret (Qbr rfl rfl hres) rfl ?_
 obtain ⟨hA1, hB9⟩ := Qhq (w := w) (r := w.heap.size + 1) hRM oW (by have := HS0.out; omega) (Qaa HB0.out HB0.out.size hB1) (.int .i64 (g.evs.length : Int)) (.slice xm ym zm)
 exact ⟨_, rb, rfl, hA1, hB9⟩
theorem Qom (V : GrV) (g : Gr) (w : World) (h : GrR w V g) (hn : g.evs.length ≤ 256) : Calls Tryz.prog 43 #[V.val g] w fun e w' => ∃ M rb, e = .returned (.agg #[.int .i64 (g.evs.length : Int), M]) ∧ RefM w.heap.size w' M g.evs.length g.evs.length rb (Qbn g.rf) ∧ Below w.heap.size w w' := by
 obtain ⟨Ve, Vr, Vc, Vm, Va, Vd, Vt⟩ := V
 obtain ⟨p1, k1, e1, hp, hlen, _⟩ := h.ev
 obtain ⟨p2, k2, e2, _, _⟩ := Qab h.rf
 obtain ⟨p4, k4, e4, _, _⟩ := Qab h.rmw
 obtain ⟨p5, k5, e5, _, _⟩ := Qab h.addr
 obtain ⟨p6, k6, e6, _, _⟩ := Qab h.dat
 obtain ⟨p7, k7, e7, _, _⟩ := Qab h.ctrl
 obtain ⟨p3, k3, e3, hcl, hco⟩ := Qbg h.co
 dsimp only at e1 e2 e3 e4 e5 e6 e7
 subst e1 e2 e3 e4 e5 e6 e7
 have HV := Qa h
 have HP := Qa hp
 have HCO := Qa hco
 have HG0 := Qa ((Blk.new w 27 (g8 g p1 k1 p2 k2 p3 k3 p4 k4 p5 k5 p6 k6 p7 k7)).alloc (.cells #[.int .i64 0, .slice none 0 0] 51))
 have HR0 := Qa (Blk.new2 w (.cells (g8 g p1 k1 p2 k2 p3 k3 p4 k4 p5 k5 p6 k6 p7 k7) 27) 51 #[.int .i64 0, .slice none 0 0])
 have HB0 : Hid (Below w.heap.size w ((w.alloc (.cells (g8 g p1 k1 p2 k2 p3 k3 p4 k4 p5 k5 p6 k6 p7 k7) 27)).alloc (.cells #[.int .i64 0, .slice none 0 0] 51))) := ((Below.refl _ w).alloc nW _).alloc sW _
 have HS0 : Hid (((w.alloc (.cells (g8 g p1 k1 p2 k2 p3 k3 p4 k4 p5 k5 p6 k6 p7 k7) 27)).alloc (.cells #[.int .i64 0, .slice none 0 0] 51)).heap.size = w.heap.size + 2) := by rw [Hid]; simp
 unfold GrV.val
 dsimp only
 clear h hp hco
 go_enter Tryz.func43, Tryz.ntmps43
 go_upto_region 1 with fail
 generalize ((w.alloc (.cells (g8 g p1 k1 p2 k2 p3 k3 p4 k4 p5 k5 p6 k6 p7 k7) 27)).alloc (.cells #[.int .i64 0, .slice none 0 0] 51)) = W0 at *
 have d0 : W0.cell? ⟨w.heap.size, 0, none⟩ = some (.int .i64 g.cells) := (HG0.out).cell rfl
 have d1 : W0.cell? ⟨w.heap.size, 1, none⟩ = some (.slice p1 g.evs.length k1) := (HG0.out).cell rfl
 have d2 : W0.cell? ⟨w.heap.size, 2, none⟩ = some (.slice p2 g.rf.length k2) := (HG0.out).cell rfl
 have d3 : W0.cell? ⟨w.heap.size, 3, none⟩ = some (.slice p3 g.co.length k3) := (HG0.out).cell rfl
 have d4 : W0.cell? ⟨w.heap.size, 4, none⟩ = some (.slice p4 g.rmw.length k4) := (HG0.out).cell rfl
 have d5 : W0.cell? ⟨w.heap.size, 5, none⟩ = some (.slice p5 g.addr.length k5) := (HG0.out).cell rfl
 have d6 : W0.cell? ⟨w.heap.size, 6, none⟩ = some (.slice p6 g.dat.length k6) := (HG0.out).cell rfl
 have d7 : W0.cell? ⟨w.heap.size, 7, none⟩ = some (.slice p7 g.ctrl.length k7) := (HG0.out).cell rfl
 have D := Qa (Qke ⟨.slice p1 g.evs.length k1, .slice p2 g.rf.length k2, .slice p3 g.co.length k3, .slice p4 g.rmw.length k4, .slice p5 g.addr.length k5, .slice p6 g.dat.length k6, .slice p7 g.ctrl.length k7⟩ g _ g.rf W0 (HV.out.below HB0.out) ((HV.out.below HB0.out).rf) hn)
 unfold GrV.val at D
 dsimp only at D
 go_wp2_with fail
 refine D.out.mono ?_
 rintro e w1 ⟨M, rb, rfl, hRM, hB1⟩
 obtain ⟨xm, ym, zm, rfl⟩ := hRM.slice
 clear d0 d1 d2 d3 d4 d5 d6 d7 D
 have hr : Blk w1 (w.heap.size + 1) 51 #[.int .i64 0, .slice none 0 0] := HR0.out.of_below hB1
 have q0 := hr.cell (j := 0) rfl
 have q1 := hr.cell (j := 1) rfl
 have f0 := hr.frozen 0
 have f1 := hr.frozen 1
 go_wp2_with fail
 have hres := (hr.set 0 (.int .i64 (g.evs.length : Int))).set 1 (.slice xm ym zm)
 simp only [List.setIfInBounds_toArray, List.set_cons_zero, List.set_cons_succ] at hres
 (try simp only [Exit.inBlock, Exit.then])
 refine bodyPost_ret (Qbr rfl rfl hres) rfl ?_
 obtain ⟨hA1, hB9⟩ := Qhq (w := w) (r := w.heap.size + 1) hRM oW (by have := HS0.out; omega) (Qaa HB0.out HB0.out.size hB1) (.int .i64 (g.evs.length : Int)) (.slice xm ym zm)
 exact ⟨_, rb, rfl, hA1, hB9⟩
theorem Qux (V : GrV) (g : Gr) (w : World) (h : GrR w V g) (hn : g.evs.length ≤ 256) : Calls Tryz.prog 56 #[V.val g] w fun e w' => ∃ M rb, e = .returned (.agg #[.int .i64 (g.evs.length : Int), M]) ∧ RefM w.heap.size w' M g.evs.length g.evs.length rb (Qbn g.rmw) ∧ Below w.heap.size w w' := by
 obtain ⟨Ve, Vr, Vc, Vm, Va, Vd, Vt⟩ := V
 obtain ⟨p1, k1, e1, hp, hlen, _⟩ := h.ev
 obtain ⟨p2, k2, e2, _, _⟩ := Qab h.rf
 obtain ⟨p4, k4, e4, _, _⟩ := Qab h.rmw
 obtain ⟨p5, k5, e5, _, _⟩ := Qab h.addr
 obtain ⟨p6, k6, e6, _, _⟩ := Qab h.dat
 obtain ⟨p7, k7, e7, _, _⟩ := Qab h.ctrl
 obtain ⟨p3, k3, e3, hcl, hco⟩ := Qbg h.co
 dsimp only at e1 e2 e3 e4 e5 e6 e7
 subst e1 e2 e3 e4 e5 e6 e7
 have HV := Qa h
 have HP := Qa hp
 have HCO := Qa hco
 have HG0 := Qa ((Blk.new w 27 (g8 g p1 k1 p2 k2 p3 k3 p4 k4 p5 k5 p6 k6 p7 k7)).alloc (.cells #[.int .i64 0, .slice none 0 0] 51))
 have HR0 := Qa (Blk.new2 w (.cells (g8 g p1 k1 p2 k2 p3 k3 p4 k4 p5 k5 p6 k6 p7 k7) 27) 51 #[.int .i64 0, .slice none 0 0])
 have HB0 : Hid (Below w.heap.size w ((w.alloc (.cells (g8 g p1 k1 p2 k2 p3 k3 p4 k4 p5 k5 p6 k6 p7 k7) 27)).alloc (.cells #[.int .i64 0, .slice none 0 0] 51))) := ((Below.refl _ w).alloc nW _).alloc sW _
 have HS0 : Hid (((w.alloc (.cells (g8 g p1 k1 p2 k2 p3 k3 p4 k4 p5 k5 p6 k6 p7 k7) 27)).alloc (.cells #[.int .i64 0, .slice none 0 0] 51)).heap.size = w.heap.size + 2) := by rw [Hid]; simp
 unfold GrV.val
 dsimp only
 clear h hp hco
 go_enter Tryz.func56, Tryz.ntmps56
 go_upto_region 1 with fail
 generalize ((w.alloc (.cells (g8 g p1 k1 p2 k2 p3 k3 p4 k4 p5 k5 p6 k6 p7 k7) 27)).alloc (.cells #[.int .i64 0, .slice none 0 0] 51)) = W0 at *
 have d0 : W0.cell? ⟨w.heap.size, 0, none⟩ = some (.int .i64 g.cells) := (HG0.out).cell rfl
 have d1 : W0.cell? ⟨w.heap.size, 1, none⟩ = some (.slice p1 g.evs.length k1) := (HG0.out).cell rfl
 have d2 : W0.cell? ⟨w.heap.size, 2, none⟩ = some (.slice p2 g.rf.length k2) := (HG0.out).cell rfl
 have d3 : W0.cell? ⟨w.heap.size, 3, none⟩ = some (.slice p3 g.co.length k3) := (HG0.out).cell rfl
 have d4 : W0.cell? ⟨w.heap.size, 4, none⟩ = some (.slice p4 g.rmw.length k4) := (HG0.out).cell rfl
 have d5 : W0.cell? ⟨w.heap.size, 5, none⟩ = some (.slice p5 g.addr.length k5) := (HG0.out).cell rfl
 have d6 : W0.cell? ⟨w.heap.size, 6, none⟩ = some (.slice p6 g.dat.length k6) := (HG0.out).cell rfl
 have d7 : W0.cell? ⟨w.heap.size, 7, none⟩ = some (.slice p7 g.ctrl.length k7) := (HG0.out).cell rfl
 have D := Qa (Qke ⟨.slice p1 g.evs.length k1, .slice p2 g.rf.length k2, .slice p3 g.co.length k3, .slice p4 g.rmw.length k4, .slice p5 g.addr.length k5, .slice p6 g.dat.length k6, .slice p7 g.ctrl.length k7⟩ g _ g.rmw W0 (HV.out.below HB0.out) ((HV.out.below HB0.out).rmw) hn)
 unfold GrV.val at D
 dsimp only at D
 go_wp2_with fail
 refine D.out.mono ?_
 rintro e w1 ⟨M, rb, rfl, hRM, hB1⟩
 obtain ⟨xm, ym, zm, rfl⟩ := hRM.slice
 clear d0 d1 d2 d3 d4 d5 d6 d7 D
 have hr : Blk w1 (w.heap.size + 1) 51 #[.int .i64 0, .slice none 0 0] := HR0.out.of_below hB1
 have q0 := hr.cell (j := 0) rfl
 have q1 := hr.cell (j := 1) rfl
 have f0 := hr.frozen 0
 have f1 := hr.frozen 1
 go_wp2_with fail
 have hres := (hr.set 0 (.int .i64 (g.evs.length : Int))).set 1 (.slice xm ym zm)
 simp only [List.setIfInBounds_toArray, List.set_cons_zero, List.set_cons_succ] at hres
 (try simp only [Exit.inBlock, Exit.then])
 refine bodyPost_ret (Qbr rfl rfl hres) rfl ?_
 obtain ⟨hA1, hB9⟩ := Qhq (w := w) (r := w.heap.size + 1) hRM oW (by have := HS0.out; omega) (Qaa HB0.out HB0.out.size hB1) (.int .i64 (g.evs.length : Int)) (.slice xm ym zm)
 exact ⟨_, rb, rfl, hA1, hB9⟩
theorem Qrd (V : GrV) (g : Gr) (x : Int) (w : World) (h : GrR w V g) :
  Calls Tryz.prog 48 #[V.val g, .int .i64 x] w fun r w' => ∃ u, r = .returned u ∧ w'.ownsRow w.heap.size 4 1 u (Qbd (fun e => e.k == x) g.evs).length (Qdp (Qbd (fun e => e.k == x) g.evs)) ∧ Below w.heap.size w w' := by
 obtain ⟨i0, hi, hz0, hz1, hz2⟩ := info_parts Tryz.infobool
 obtain ⟨Ve, Vr, Vc, Vm, Va, Vd, Vt⟩ := V
 obtain ⟨pe, ce, ee, hp, hlen, _⟩ := h.ev
 dsimp only at ee
 subst ee
 have HP := Qa hp
 have hB : Below w.heap.size w (w.alloc (.cells #[.int .i64 g.cells, .slice pe g.evs.length ce, Vr, Vc, Vm, Va, Vd, Vt] 27)) := bW.alloc nW _
 have hb := Blk.new w 27 #[.int .i64 g.cells, .slice pe g.evs.length ce, Vr, Vc, Vm, Va, Vd, Vt]
 unfold GrV.val
 dsimp only
 clear h hp
 go_enter Tryz.func48, Tryz.ntmps48
 go_wp2_with fail
 have HB := Qa hB
 have HG := Qa hb
 generalize w.alloc (.cells #[.int .i64 g.cells, .slice pe g.evs.length ce, Vr, Vc, Vm, Va, Vd, Vt] 27) = W0 at *
 clear hb hB
 go_loopg [5, 6] g.evs.length (fun f ov i wr => ∃ k : Nat, i = .int .i64 ((k : Nat) : Int) ∧ k ≤ g.evs.length ∧ Hid (k + f = g.evs.length) ∧ Hid (wr.ownsRow W0.heap.size 4 1 ov (Qbd (fun e => e.k == x) (g.evs.take k)).length (Qdp (Qbd (fun e => e.k == x) (g.evs.take k)))) ∧ Hid (Below W0.heap.size W0 wr))
 case atStart => exact ⟨0, rfl, Nat.zero_le _, Nat.zero_add _, World.ownsRow_nil _ _ _ _, Below.refl _ _⟩
 case round =>
  obtain ⟨k, rfl, hk, HKF, HO, HW⟩ := hrel
  obtain ⟨oa, ocap, rfl⟩ := Qax HO.out
  have HBW : Hid (Below w.heap.size w wr) := Qaa HB.out HB.out.size HW.out
  have c1 : wr.cell? ⟨w.heap.size, 1, none⟩ = some (.slice pe g.evs.length ce) := (HG.out.of_below HW.out).cell rfl
  by_cases hlt : k < g.evs.length
  ·obtain ⟨s, o, rfl, hat⟩ := HP.out oW
   have x1 := (hat.below HBW.out).c1 k _ (Qa9 hlt)
   have K0 : (0 : Int) ≤ (k : Int) := by omega
   have K1 : (k : Int) < (g.evs.length : Int) := by omega
   have HSN := Qa (Qqx (P := fun e => e.k == x) (Qa9 hlt))
   have htl : (Qbd (fun e => e.k == x) (g.evs.take k)).length ≤ k := by simp [Qbd]; omega
   have hsz := HW.out.size
   clear hat
   generalize (g.evs.getD k Ev.zero).k = kk at *
   generalize Qbd (fun e => e.k == x) (g.evs.take k) = tkk at *
   go_wp2_with (at_builtin; refine wpList_append_own_at _ rfl _ _ 65 rfl W0.heap.size 4 i0 (.bool false) 1 1 Tryz.underlying65 hi hz0 hz1 hz2 rfl dW (.slice oa tkk.length ocap) tkk.length (Qdp tkk) rfl (HO.out.alloc _) ⟨_, 0, none⟩ 1 1 [.bool (kk == x)] rfl rfl (Qkn wr 4 _) (by simp [Value.oneCell']) (by unfold maxLen; omega) oW (by simp; omega) ?_; intro v5 w5 hown' hgrow _ _)
   have hb5 : Below W0.heap.size W0 w5 := (HW.out.alloc hsz _).grown hgrow (by simp; omega) (fun q e => (HO.out.lt q e).1)
   go_roundg (g.evs.length - (k + 1))
   case measure => have := HKF.out; omega
   case rel => exact ⟨k + 1, by go_num, oW, by have := HKF.out; rw [Hid]; omega, by rw [Hid, HSN.out, List.length_append, Qdp, List.map_append]; exact hown', hb5⟩
  ·obtain rfl : k = g.evs.length := by omega
   go_wp2_with fail
   go_ret
   refine ⟨_, rfl, ?_, HBW.out⟩
   have := Qdu HO.out HB.out.size
   simp only [List.take_length] at this ⊢
   exact this
def Qe6 (l : List Int) (i j : Nat) : List (Int × Int) := ((l.take j).drop (i + 1)).map (fun b => (l.getD i 0, b))
def Qfi (l : List Int) (i : Nat) : List (Int × Int) := (List.range i).flatMap (fun k => Qe6 l k l.length)
def coL (g : Gr) (c i j : Nat) : List (Int × Int) := (g.co.take c).flatMap (fun l => Qfi l l.length) ++ Qfi (g.co.getD c []) i ++ Qe6 (g.co.getD c []) i j
theorem Qev (l : List Int) (i : Nat) : Qe6 l i (i + 1) = [] := by
 unfold Qe6
 rw [List.drop_eq_nil_of_le (by simp; omega)]
 rfl
theorem Qs1 {l : List Int} {i j : Nat} {x y : Int} (hij : i + 1 ≤ j) (hx : l[i]? = some x) (hy : l[j]? = some y) : Qe6 l i (j + 1) = Qe6 l i j ++ [(x, y)] := by
 have hj := (List.getElem?_eq_some_iff.1 hy).1
 unfold Qe6
 rw [List.take_add_one, hy, List.drop_append_of_le_length (by simp; omega), List.map_append, List.getD_eq_getElem?_getD, hx]
 rfl
theorem QCa (g : Gr) : coL g 0 0 1 = [] := by
 unfold coL
 rw [Qev]
 simp [Qfi]
theorem QFq {g : Gr} {c i j : Nat} {l : List Int} {x y : Int} (hl : g.co[c]? = some l) (hij : i + 1 ≤ j) (hx : l[i]? = some x) (hy : l[j]? = some y) : coL g c i (j + 1) = coL g c i j ++ [(x, y)] := by
 unfold coL
 rw [List.getD_eq_getElem?_getD, hl, Option.getD_some, Qs1 hij hx hy]
 simp only [List.append_assoc]
theorem QFr {g : Gr} {c i : Nat} {l : List Int} (hl : g.co[c]? = some l) : coL g c i l.length = coL g c (i + 1) (i + 1 + 1) := by
 unfold coL
 rw [List.getD_eq_getElem?_getD, hl, Option.getD_some, Qev]
 unfold Qfi
 rw [List.range_succ, List.flatMap_append]
 simp
theorem QCb {g : Gr} {c : Nat} {l : List Int} (hl : g.co[c]? = some l) : coL g c l.length (l.length + 1) = coL g (c + 1) 0 1 := by
 unfold coL
 rw [Qev, List.getD_eq_getElem?_getD, hl, Option.getD_some, List.take_add_one, hl, List.flatMap_append]
 have : Qfi (g.co.getD (c + 1) []) 0 = [] := by simp [Qfi]
 rw [Qev, this]
 simp
theorem QFs {S : List (Int × Int)} {a b p q : Nat} : upd (Qbn S) a b true p q = Qbn (S ++ [(((a : Nat) : Int), ((b : Nat) : Int))]) p q := by
 unfold upd Qbn
 by_cases h : p = a ∧ q = b
 ·obtain ⟨rfl, rfl⟩ := h
  simp
 ·rw [if_neg h, Bool.eq_iff_iff]
  simp only [decide_eq_true_eq, List.mem_append, List.mem_singleton, Prod.mk.injEq]
  exact ⟨fun h1 => .inl h1, fun h1 => h1.elim id (fun h2 => absurd ⟨oW, oW⟩ h)⟩
theorem Qmn {l : List Int} {i : Nat} (hi : i < l.length) {x y : Int} : (x, y) ∈ Qe6 l i l.length ↔ l[i]? = some x ∧ ∃ j, i < j ∧ l[j]? = some y := by
 unfold Qe6
 rw [List.take_length]
 simp only [List.mem_map, Prod.mk.injEq]
 rw [List.getD_eq_getElem?_getD, List.getElem?_eq_getElem hi]
 constructor
 ·rintro ⟨b, hb, h1, rfl⟩
  obtain ⟨k, hk⟩ := List.getElem?_of_mem hb
  rw [List.getElem?_drop] at hk
  exact ⟨by rw [← h1]; rfl, i + 1 + k, oW, hk⟩
 ·rintro ⟨h1, j, hij, hj⟩
  refine ⟨y, ?_, by simpa using h1, rfl⟩
  refine List.mem_of_getElem? (i := j - (i + 1)) ?_
  rw [List.getElem?_drop, show i + 1 + (j - (i + 1)) = j by omega]
  exact hj
theorem QFt (g : Gr) (p q : Nat) : Qbn (coL g g.co.length 0 1) p q = coB g p q := by
 rw [Bool.eq_iff_iff, QGu]
 unfold coL Qbn
 rw [Qev, List.take_length]
 have h0 : Qfi (g.co.getD g.co.length []) 0 = [] := by simp [Qfi]
 rw [h0, List.append_nil, List.append_nil, decide_eq_true_iff, List.mem_flatMap]
 constructor
 ·rintro ⟨l, hl, h⟩
  obtain ⟨c, hc⟩ := List.getElem?_of_mem hl
  unfold Qfi at h
  obtain ⟨i, hi, h⟩ := List.mem_flatMap.1 h
  obtain ⟨h1, j, h2, h3⟩ := (Qmn (List.mem_range.1 hi)).1 h
  exact ⟨c, l, j, i, hc, h2, h1, h3⟩
 ·rintro ⟨c, l, i, j, hc, h1, h2, h3⟩
  refine ⟨l, List.mem_of_getElem? hc, ?_⟩
  have hj := (List.getElem?_eq_some_iff.1 h2).1
  unfold Qfi
  exact List.mem_flatMap.2 ⟨j, List.mem_range.2 hj, (Qmn hj).2 ⟨h2, i, h1, h3⟩⟩
theorem Qon (V : GrV) (g : Gr) (qw : Bool) (w : World) (h : GrR w V g) (hn : g.evs.length ≤ 256) (hw : Wf g qw) : Calls Tryz.prog 44 #[V.val g] w fun e w' => ∃ M rb, e = .returned (.agg #[.int .i64 (g.evs.length : Int), M]) ∧ RefM w.heap.size w' M g.evs.length g.evs.length rb (coB g) ∧ Below w.heap.size w w' := by
 obtain ⟨Ve, Vr, Vc, Vm, Va, Vd, Vt⟩ := V
 obtain ⟨p1, k1, e1, hp, hlen, _⟩ := h.ev
 obtain ⟨p2, k2, e2, _, _⟩ := Qab h.rf
 obtain ⟨p4, k4, e4, _, _⟩ := Qab h.rmw
 obtain ⟨p5, k5, e5, _, _⟩ := Qab h.addr
 obtain ⟨p6, k6, e6, _, _⟩ := Qab h.dat
 obtain ⟨p7, k7, e7, _, _⟩ := Qab h.ctrl
 obtain ⟨p3, k3, e3, hcl, hco⟩ := Qbg h.co
 dsimp only at e1 e2 e3 e4 e5 e6 e7
 subst e1 e2 e3 e4 e5 e6 e7
 have HV := Qa h
 have HP := Qa hp
 have HCO := Qa hco
 have HW := Qa hw
 clear hw
 have hcl2 : g.co.length ≤ 256 := by have h1 := rl0 (HW.out 0 oW); have h2 := (ok5 HW.out).1; simp [Qbo] at h1; omega
 have HG0 := Qa ((Blk.new w 27 (g8 g p1 k1 p2 k2 p3 k3 p4 k4 p5 k5 p6 k6 p7 k7)).alloc (.cells #[.int .i64 0, .slice none 0 0] 51))
 have c1 : ((w.alloc (.cells (g8 g p1 k1 p2 k2 p3 k3 p4 k4 p5 k5 p6 k6 p7 k7) 27)).alloc (.cells #[.int .i64 0, .slice none 0 0] 51)).cell? ⟨w.heap.size, 1, none⟩ = some (.slice p1 g.evs.length k1) := HG0.out.cell rfl
 unfold GrV.val
 dsimp only
 clear h hp hco
 go_enter Tryz.func44, Tryz.ntmps44
 go_wp2_with fail
 refine (Qd g.evs.length hn _).mono ?_
 rintro e w1 ⟨M, rbw, rfl, hRM, hB1⟩
 obtain ⟨xm, ym, zm, rfl⟩ := hRM.slice
 have hA : MkAt w (w1.alloc (.cells #[.int .i64 (g.evs.length : Int), .slice xm ym zm] 51)) 2 [(1, #[.int .i64 0, .slice none 0 0])] w1.heap.size g.evs.length (.slice xm ym zm) rbw (Qbn (coL g 0 0 1)) := by
  refine MkAt.begin (((Below.refl _ w).alloc nW _).alloc sW _) sW ?_ (hRM.congr fun p q hp hq => ?_) hB1
  ·intro x hx
   simp only [List.mem_cons, List.not_mem_nil, or_false] at hx
   subst hx
   exact ⟨oW, Blk.new2 w _ _ _⟩
  ·rw [QCa]; simp [Qbn]
 have hG := ((HG0.out.of_below hB1).alloc (.cells #[.int .i64 (g.evs.length : Int), .slice xm ym zm] 51))
 clear hRM hB1 HG0 c1
 go_wp2_with fail
 generalize w1.heap.size = B at *
 go_loopw [4] (fun i wr => ∃ c, c ≤ g.co.length ∧ i = .int .i64 ((c : Nat) : Int) ∧ MkAt w wr 2 [(1, #[.int .i64 0, .slice none 0 0])] B g.evs.length (.slice xm ym zm) rbw (Qbn (coL g c 0 1)) ∧ Blk wr w.heap.size 27 (g8 g p1 k1 p2 k2 p3 k3 p4 k4 p5 k5 p6 k6 p7 k7)) (fun i _ => g.co.length - (intOf i).toNat)
 case atStart => exact ⟨0, oW, rfl, hA, hG⟩
 case round =>
  clear hA hG
  obtain ⟨c, hc, rfl, hA, hG⟩ := hrel
  have g3 : wr.cell? ⟨w.heap.size, 3, none⟩ = some (.slice p3 g.co.length k3) := hG.cell rfl
  by_cases hltc : c < g.co.length
  ·obtain ⟨l, hl⟩ : ∃ l, g.co[c]? = some l := ⟨_, List.getElem?_eq_getElem hltc⟩
   obtain ⟨s, o, u, rfl, hs, hcu, hiu, hul⟩ := HCO.out c l hl
   obtain ⟨hpos, hall⟩ := QGa HW.out hl
   obtain ⟨s2, o2, c2, rfl, hs2, hcx⟩ := hiu.some hpos
   have HL := Qa hl
   have HALL := Qa hall
   have HCX := Qa hcx
   have HCU := Qa hcu
   have hll : l.length ≤ 256 := by have h1 := (ok5 HW.out).2 c l hl; have h2 := (Qg8 h1).1; have h3 := Qpx g (c : Int) g.evs.length; omega
   have CC0 : (0 : Int) ≤ (c : Int) := by omega
   have CC1 : (c : Int) < (g.co.length : Int) := by omega
   clear hl hall hcx hcu hiu
   go_wp2_with fail
   clear g3
   go_loopw [5] (fun i wr => ∃ b, b ≤ l.length ∧ i = .int .i64 ((b : Nat) : Int) ∧ MkAt w wr 2 [(1, #[.int .i64 0, .slice none 0 0])] B g.evs.length (.slice xm ym zm) rbw (Qbn (coL g c b (b + 1))) ∧ Blk wr w.heap.size 27 #[.int .i64 g.cells, .slice p1 g.evs.length k1, .slice p2 g.rf.length k2, .slice (some ⟨s, o, none⟩) g.co.length k3, .slice p4 g.rmw.length k4, .slice p5 g.addr.length k5, .slice p6 g.dat.length k6, .slice p7 g.ctrl.length k7]) (fun i _ => l.length - (intOf i).toNat)
   case atStart => exact ⟨0, oW, rfl, hA, hG⟩
   case round =>
    clear hA hG
    obtain ⟨i, hi0, rfl, hA, hG⟩ := hrel
    have g3 : wr.cell? ⟨w.heap.size, 3, none⟩ = some (.slice (some ⟨s, o, none⟩) g.co.length k3) := hG.cell rfl
    have g4 : wr.cell? ⟨s, o + c, none⟩ = some (.slice (some ⟨s2, o2, none⟩) l.length c2) := (hA.below.cell (p := ⟨s, o + c, none⟩) hs).trans HCU.out
    by_cases hil : i < l.length
    ·obtain ⟨x, hx⟩ : ∃ x, l[i]? = some x := ⟨_, List.getElem?_eq_getElem hil⟩
     obtain ⟨xi, rfl, hxi, _⟩ := HALL.out x (List.mem_of_getElem? hx)
     have HX := Qa hx
     clear hx
     have I0 : (0 : Int) ≤ (i : Int) := by omega
     have I1 : (i : Int) < (l.length : Int) := by omega
     have iw : IntKind.i64.wrap ((i : Int) + 1) = ((i + 1 : Nat) : Int) := by rw [show ((i : Int) + 1) = ((i + 1 : Nat) : Int) by omega]; exact Qff oW
     go_wp2_with fail
     clear g3 g4
     go_loopw [6] (fun i6 wr => ∃ j, i + 1 ≤ j ∧ j ≤ l.length ∧ i6 = .int .i64 ((j : Nat) : Int) ∧ MkAt w wr 2 [(1, #[.int .i64 0, .slice none 0 0])] B g.evs.length (.slice xm ym zm) rbw (Qbn (coL g c i j)) ∧ Blk wr w.heap.size 27 #[.int .i64 g.cells, .slice p1 g.evs.length k1, .slice p2 g.rf.length k2, .slice (some ⟨s, o, none⟩) g.co.length k3, .slice p4 g.rmw.length k4, .slice p5 g.addr.length k5, .slice p6 g.dat.length k6, .slice p7 g.ctrl.length k7]) (fun i _ => l.length - (intOf i).toNat)
     case atStart => exact ⟨i + 1, Nat.le_refl _, oW, by first | rfl | go_num, hA, hG⟩
     case round =>
      clear hA hG
      obtain ⟨j, hij, hj0, rfl, hA, hG⟩ := hrel
      generalize hwq : wr = wx at *
      clear hwq
      have g3 : wx.cell? ⟨w.heap.size, 3, none⟩ = some (.slice (some ⟨s, o, none⟩) g.co.length k3) := hG.cell rfl
      have g4 : wx.cell? ⟨s, o + c, none⟩ = some (.slice (some ⟨s2, o2, none⟩) l.length c2) := (hA.below.cell (p := ⟨s, o + c, none⟩) hs).trans HCU.out
      by_cases hjl : j < l.length
      ·obtain ⟨y, hy⟩ : ∃ x, l[j]? = some x := ⟨_, List.getElem?_eq_getElem hjl⟩
       obtain ⟨yj, rfl, hyj, _⟩ := HALL.out y (List.mem_of_getElem? hy)
       have HY := Qa hy
       clear hy
       have J0 : (0 : Int) ≤ (j : Int) := by omega
       have J1 : (j : Int) < (l.length : Int) := by omega
       have X0 : (0 : Int) ≤ (xi : Int) := by omega
       have X1 : (xi : Int) < (g.evs.length : Int) := by omega
       have Y0 : (0 : Int) ≤ (yj : Int) := by omega
       have Y1 : (yj : Int) < (g.evs.length : Int) := by omega
       obtain ⟨g2, cap2, e2, q2, _, n2, s0, s1, fz, q3⟩ := hA.ref.at_ hxi hyj
       cases e2
       have HZ : Hid (∀ W F, MkAt w W 2 [(1, #[.int .i64 0, .slice none 0 0])] B g.evs.length (.slice (some ⟨g2, 0, none⟩) g.evs.length zm) rbw F → Blk W w.heap.size 27 #[.int .i64 g.cells, .slice p1 g.evs.length k1, .slice p2 g.rf.length k2, .slice (some ⟨s, o, none⟩) g.co.length k3, .slice p4 g.rmw.length k4, .slice p5 g.addr.length k5, .slice p6 g.dat.length k6, .slice p7 g.ctrl.length k7] → W.cell? ⟨B, 1, none⟩ = some (.slice (some ⟨g2, 0, none⟩) g.evs.length zm) ∧ W.cell? ⟨g2, xi, none⟩ = some (hdr g.evs.length (rbw xi)) ∧ W.cell? ⟨w.heap.size, 3, none⟩ = some (.slice (some ⟨s, o, none⟩) g.co.length k3) ∧ W.cell? ⟨s, o + c, none⟩ = some (.slice (some ⟨s2, o2, none⟩) l.length c2) ∧ W.cell? ⟨s2, o2 + i, none⟩ = some (.int .i64 ((xi : Nat) : Int)) ∧ W.cell? ⟨s2, o2 + j, none⟩ = some (.int .i64 ((yj : Nat) : Int))) := fun W F hA hG => ⟨hA.box.cell rfl, (by obtain ⟨g5, cap3, e3, _, _, _, s0, _⟩ := hA.ref.at_ hxi hyj; cases e3; exact s0), hG.cell rfl, (hA.below.cell (p := ⟨s, o + c, none⟩) hs).trans HCU.out, (hA.below.cell (p := ⟨s2, o2 + i, none⟩) hs2).trans (HCX.out i _ HX.out), (hA.below.cell (p := ⟨s2, o2 + j, none⟩) hs2).trans (HCX.out j _ HY.out)⟩
       have HHA := Qa hA.drew
       have HHG := Qa hG.drew
       clear s0 s1 fz hA hG
       obtain ⟨g5, cap4, e4, _, _, _, _, s5, f5, _⟩ := HHA.out.ref.at_ hxi hyj
       cases e4
       go_upto_region 11 with fail
       clear g3 g4
       refine wp_region_held_drew (S := fun W => W.cell? ⟨B, 1, none⟩ = some (.slice (some ⟨g2, 0, none⟩) g.evs.length zm) ∧ W.cell? ⟨g2, xi, none⟩ = some (hdr g.evs.length (rbw xi)) ∧ W.cell? ⟨w.heap.size, 3, none⟩ = some (.slice (some ⟨s, o, none⟩) g.co.length k3) ∧ W.cell? ⟨s, o + c, none⟩ = some (.slice (some ⟨s2, o2, none⟩) l.length c2) ∧ W.cell? ⟨s2, o2 + i, none⟩ = some (.int .i64 ((xi : Nat) : Int)) ∧ W.cell? ⟨s2, o2 + j, none⟩ = some (.int .i64 ((yj : Nat) : Int))) kW (HZ.out _ _ HHA.out HHG.out) (fun hHeld => ?_)
       refine tzW 0 rfl ?_
       refine tzW 1 rfl ?_
       refine tzW 2 rfl ?_
       refine tzW 3 rfl ?_
       refine tzW 4 rfl ?_
       refine tzW 5 rfl ?_
       refine tzW 6 rfl ?_
       refine tzW 7 rfl ?_
       refine tzW 8 rfl ?_
       refine tzW 9 rfl ?_
       refine tzW 10 rfl ?_
       refine tzW 11 rfl ?_
       refine tzW 12 rfl ?_
       refine tzW 13 rfl ?_
       refine tzW 14 rfl ?_
       refine tzW 15 rfl ?_
       refine tzW 16 rfl ?_
       refine tzW 17 rfl ?_
       refine tzW 18 rfl ?_
       refine tzW 19 rfl ?_
       refine tzW 20 rfl ?_
       refine wpAnyH_ready (rs := [21]) kW sW ?_
       refine AllReadyH.cons rfl (fun K hK => ?_) AllReadyH.nil
       simp only [z1, z2, z3]
       go_simp
       refine hK.out _ _ (HZ.out _ _ (HHA.out.put hxi hyj _) (HHG.out.setOther (by have := (HHA.out.ref.row xi hxi).1; simp; omega) _)) (fun hHeld => ?_)
       clear hK K
       try simp only [zz]
       refine wpAnyH_done kW ?_ _
       go_wp2_with fail
       refine ⟨⟨j + 1, oW, oW, by go_num, (HHA.out.put hxi hyj _).congr (fun p r _ _ => by rw [QFq HL.out hij HX.out HY.out]; exact QFs), HHG.out.setOther (by have := (HHA.out.ref.row xi hxi).1; simp; omega) _⟩, by simp [intOf]; omega⟩
      ·obtain rfl : j = l.length := by omega
       rw [QFr HL.out] at hA
       go_wp2_with fail
       refine ⟨⟨i + 1, oW, by go_num, hA, hG⟩, by simp [intOf]; omega⟩
    ·obtain rfl : i = l.length := by omega
     rw [QCb HL.out] at hA
     go_wp2_with fail
     refine ⟨⟨c + 1, oW, by go_num, hA, hG⟩, by simp [intOf]; omega⟩
  ·obtain rfl : c = g.co.length := by omega
   have hA := hA.congr (G := coB g) (fun p q hp hq => QFt g p q)
   have b0 := hA.box.cell (j := 0) rfl
   have b1 := hA.box.cell (j := 1) rfl
   have hr := hA.fst
   have d0 := hr.cell (j := 0) rfl
   have d1 := hr.cell (j := 1) rfl
   have f0 := hr.frozen 0
   have f1 := hr.frozen 1
   go_wp2_with fail
   have hres := (hr.set 0 (.int .i64 (g.evs.length : Int))).set 1 (.slice xm ym zm)
   simp only [List.setIfInBounds_toArray, List.set_cons_zero, List.set_cons_succ] at hres
   (try simp only [Exit.inBlock, Exit.then])
   refine bodyPost_ret (Qbr rfl rfl hres) rfl ?_
   obtain ⟨hA1, hB1⟩ := hA.answer (r := 1) oW
   exact ⟨_, rbw, rfl, hA1, hB1⟩
theorem QJe {g : Gr} {p q : Nat} (hp : p < g.evs.length) (hq : q < g.evs.length) : Qdt (Qad g.evs.length (fun p q => Qbn g.rf q p)) (Qad g.evs.length (coB g)) g.evs.length p q = frB g p q := by
 rw [Bool.eq_iff_iff, Qtc]
 unfold frB Qad
 rw [List.any_eq_true]
 constructor
 ·rintro ⟨r, hr, h1, h2⟩
  refine ⟨r, List.mem_range.2 hr, ?_⟩
  simp [hp, hq, hr] at h1 h2
  simp [h1, h2]
 ·rintro ⟨r, hr, h1⟩
  have hr := List.mem_range.1 hr
  simp at h1
  exact ⟨r, hr, by simp [hp, hr, h1.1], by simp [hq, hr, h1.2]⟩
theorem Qxr (V : GrV) (g : Gr) (qw : Bool) (w : World) (h : GrR w V g) (hn : g.evs.length ≤ 256) (hw : Wf g qw) : Calls Tryz.prog 45 #[V.val g] w fun e w' => ∃ M rb, e = .returned (.agg #[.int .i64 (g.evs.length : Int), M]) ∧ RefM w.heap.size w' M g.evs.length g.evs.length rb (frB g) ∧ Below w.heap.size w w' := by
 obtain ⟨Ve, Vr, Vc, Vm, Va, Vd, Vt⟩ := V
 obtain ⟨p1, k1, e1, hp, hlen, _⟩ := h.ev
 obtain ⟨p2, k2, e2, _, _⟩ := Qab h.rf
 obtain ⟨p4, k4, e4, _, _⟩ := Qab h.rmw
 obtain ⟨p5, k5, e5, _, _⟩ := Qab h.addr
 obtain ⟨p6, k6, e6, _, _⟩ := Qab h.dat
 obtain ⟨p7, k7, e7, _, _⟩ := Qab h.ctrl
 obtain ⟨p3, k3, e3, hcl, hco⟩ := Qbg h.co
 dsimp only at e1 e2 e3 e4 e5 e6 e7
 subst e1 e2 e3 e4 e5 e6 e7
 have HV := Qa h
 have HP := Qa hp
 have HCO := Qa hco
 have HW := Qa hw
 clear hw
 have HG0 := Qa ((Blk.new w 27 (g8 g p1 k1 p2 k2 p3 k3 p4 k4 p5 k5 p6 k6 p7 k7)).alloc (.cells #[.int .i64 0, .slice none 0 0] 51))
 have HR0 := Qa (Blk.new2 w (.cells (g8 g p1 k1 p2 k2 p3 k3 p4 k4 p5 k5 p6 k6 p7 k7) 27) 51 #[.int .i64 0, .slice none 0 0])
 have HB0 : Hid (Below w.heap.size w ((w.alloc (.cells (g8 g p1 k1 p2 k2 p3 k3 p4 k4 p5 k5 p6 k6 p7 k7) 27)).alloc (.cells #[.int .i64 0, .slice none 0 0] 51))) := ((Below.refl _ w).alloc nW _).alloc sW _
 have HS0 : Hid (((w.alloc (.cells (g8 g p1 k1 p2 k2 p3 k3 p4 k4 p5 k5 p6 k6 p7 k7) 27)).alloc (.cells #[.int .i64 0, .slice none 0 0] 51)).heap.size = w.heap.size + 2) := by rw [Hid]; simp
 unfold GrV.val
 dsimp only
 clear h hp hco
 go_enter Tryz.func45, Tryz.ntmps45
 go_upto_region 1 with fail
 generalize ((w.alloc (.cells (g8 g p1 k1 p2 k2 p3 k3 p4 k4 p5 k5 p6 k6 p7 k7) 27)).alloc (.cells #[.int .i64 0, .slice none 0 0] 51)) = W0 at *
 have HZ : Hid (∀ W, Blk W w.heap.size 27 (g8 g p1 k1 p2 k2 p3 k3 p4 k4 p5 k5 p6 k6 p7 k7) → W.cell? ⟨w.heap.size, 0, none⟩ = some (.int .i64 g.cells) ∧ W.cell? ⟨w.heap.size, 1, none⟩ = some (.slice p1 g.evs.length k1) ∧ W.cell? ⟨w.heap.size, 2, none⟩ = some (.slice p2 g.rf.length k2) ∧ W.cell? ⟨w.heap.size, 3, none⟩ = some (.slice p3 g.co.length k3) ∧ W.cell? ⟨w.heap.size, 4, none⟩ = some (.slice p4 g.rmw.length k4) ∧ W.cell? ⟨w.heap.size, 5, none⟩ = some (.slice p5 g.addr.length k5) ∧ W.cell? ⟨w.heap.size, 6, none⟩ = some (.slice p6 g.dat.length k6) ∧ W.cell? ⟨w.heap.size, 7, none⟩ = some (.slice p7 g.ctrl.length k7)) := fun W hG => ⟨hG.cell rfl, hG.cell rfl, hG.cell rfl, hG.cell rfl, hG.cell rfl, hG.cell rfl, hG.cell rfl, hG.cell rfl⟩
 have hXd : Below W0.heap.size W0 W0.drew := bW.drew
 refine wp_region_held_drew (S := fun W => W.cell? ⟨w.heap.size, 0, none⟩ = some (.int .i64 g.cells) ∧ W.cell? ⟨w.heap.size, 1, none⟩ = some (.slice p1 g.evs.length k1) ∧ W.cell? ⟨w.heap.size, 2, none⟩ = some (.slice p2 g.rf.length k2) ∧ W.cell? ⟨w.heap.size, 3, none⟩ = some (.slice p3 g.co.length k3) ∧ W.cell? ⟨w.heap.size, 4, none⟩ = some (.slice p4 g.rmw.length k4) ∧ W.cell? ⟨w.heap.size, 5, none⟩ = some (.slice p5 g.addr.length k5) ∧ W.cell? ⟨w.heap.size, 6, none⟩ = some (.slice p6 g.dat.length k6) ∧ W.cell? ⟨w.heap.size, 7, none⟩ = some (.slice p7 g.ctrl.length k7)) kW (HZ.out _ (HG0.out.of_below hXd)) (fun hHeld => ?_)
 refine tzW 0 rfl ?_
 refine tzW 3 rfl ?_
 refine wpAnyH_ready (rs := [1]) kW sW ?_
 refine AllReadyH.cons rfl (fun K hK => ?_) AllReadyH.nil
 simp only [z1, z2, z3]
 go_simp
 have D := Qom ⟨.slice p1 g.evs.length k1, .slice p2 g.rf.length k2, .slice p3 g.co.length k3, .slice p4 g.rmw.length k4, .slice p5 g.addr.length k5, .slice p6 g.dat.length k6, .slice p7 g.ctrl.length k7⟩ g W0.drew (HV.out.below (Qaa HB0.out HB0.out.size hXd)) hn
 unfold GrV.val at D
 dsimp only at D
 refine D.mono ?_
 rintro e v1 ⟨MA, rbA, rfl, hRMA, hBA⟩
 obtain ⟨xA, yA, tA, rfl⟩ := hRMA.slice
 have hXA : Below W0.heap.size W0 v1 := Qaa hXd hXd.size hBA
 clear D
 refine hK.out _ _ (HZ.out _ (HG0.out.of_below hXA)) (fun hHeld => ?_)
 clear hK K
 try simp only [zz]
 refine wpAnyH_ready (rs := [2]) kW sW ?_
 refine AllReadyH.cons rfl (fun K hK => ?_) AllReadyH.nil
 simp only [z1, z2, z3]
 go_simp
 have D := Qm5 _ g.evs.length hn xA yA tA rbA (Qbn g.rf) v1 hRMA
 refine D.mono ?_
 rintro e v2 ⟨MI, rbI, rfl, hRMI, hBI⟩
 obtain ⟨xI, yI, tI, rfl⟩ := hRMI.slice
 have hXI : Below W0.heap.size W0 v2 := Qaa hXA hXA.size hBI
 clear D
 refine hK.out _ _ (HZ.out _ (HG0.out.of_below hXI)) (fun hHeld => ?_)
 clear hK K
 try simp only [zz]
 refine wpAnyH_ready (rs := [4]) kW sW ?_
 refine AllReadyH.cons rfl (fun K hK => ?_) AllReadyH.nil
 simp only [z1, z2, z3]
 go_simp
 have D := Qon ⟨.slice p1 g.evs.length k1, .slice p2 g.rf.length k2, .slice p3 g.co.length k3, .slice p4 g.rmw.length k4, .slice p5 g.addr.length k5, .slice p6 g.dat.length k6, .slice p7 g.ctrl.length k7⟩ g qw v2 (HV.out.below (Qaa HB0.out HB0.out.size hXI)) hn HW.out
 unfold GrV.val at D
 dsimp only at D
 refine D.mono ?_
 rintro e v3 ⟨MC, rbC, rfl, hRMC, hBC⟩
 obtain ⟨xC, yC, tC, rfl⟩ := hRMC.slice
 have hXC : Below W0.heap.size W0 v3 := Qaa hXI hXI.size hBC
 clear D
 refine hK.out _ _ (HZ.out _ (HG0.out.of_below hXC)) (fun hHeld => ?_)
 clear hK K
 try simp only [zz]
 refine wpAnyH_ready (rs := [5]) kW sW ?_
 refine AllReadyH.cons rfl (fun K hK => ?_) AllReadyH.nil
 simp only [z1, z2, z3]
 go_simp
 have D := Qkz _ _ g.evs.length g.evs.length g.evs.length hn hn (by rw [Hid]; omega) xI yI tI rbI _ xC yC tC rbC _ v3 (hRMI.below hBC) hRMC
 refine D.mono ?_
 rintro e v4 ⟨M, rb, rfl, hRM, hB4⟩
 obtain ⟨xm, ym, zm, rfl⟩ := hRM.slice
 have hX4 : Below W0.heap.size W0 v4 := Qaa hXC hXC.size hB4
 have hr : Blk v4 (w.heap.size + 1) 51 #[.int .i64 0, .slice none 0 0] := HR0.out.of_below hX4
 have q0 := hr.cell (j := 0) rfl
 have q1 := hr.cell (j := 1) rfl
 have f0 := hr.frozen 0
 have f1 := hr.frozen 1
 clear D
 refine hK.out _ _ (HZ.out _ (HG0.out.of_below hX4)) (fun hHeld => ?_)
 clear hK K
 try simp only [zz]
 refine wpAnyH_ready (rs := [6]) kW sW ?_
 refine AllReadyH.cons rfl (fun K hK => ?_) AllReadyH.nil
 simp only [z1, z2, z3]
 go_simp
 refine hK.out _ _ (HZ.out _ (((HG0.out.of_below hX4).setOther sW _).setOther sW _)) (fun hHeld => ?_)
 clear hK K
 try simp only [zz]
 refine wpAnyH_done kW ?_ _
 have hRM := hRM.congr (G := frB g) (fun p q hp hq => QJe hp hq)
 go_wp2_with fail
 have hres := (hr.set 0 (.int .i64 (g.evs.length : Int))).set 1 (.slice xm ym zm)
 simp only [List.setIfInBounds_toArray, List.set_cons_zero, List.set_cons_succ] at hres
 (try simp only [Exit.inBlock, Exit.then])
 refine bodyPost_ret (Qbr rfl rfl hres) rfl ?_
 obtain ⟨hA1, hB9⟩ := Qhq (w := w) (r := w.heap.size + 1) hRM oW (by have := HS0.out; have := hXC.size; omega) (Qaa HB0.out HB0.out.size hX4) (.int .i64 (g.evs.length : Int)) (.slice xm ym zm)
 exact ⟨_, rb, rfl, hA1, hB9⟩
end Go.Proofs.YtdkogbfamdnheaaGreatDoor
