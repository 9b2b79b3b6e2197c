/- What follows of a well-formed graph: the maths of GraphLaws. -/
import Derived.Test.YthiijcappjaagaaGreatDoorJ23
import Derived.Test.YthiijcappjaagaaGreatDoorJ13
import Derived.Test.YthiijcappjaagaaGreatDoorJ24
import Derived.Test.YthiijcappjaagaaGreatDoorJ15
import Derived.Test.YthiijcappjaagaaGreatDoorJ22
namespace Go.Proofs.YthiijcappjaagaaGreatDoor
open Go.RowKit Go.Shelf Sx
def Wf (g : Gr) (q : Bool) : Prop := ∀ j, j < 9 → rl g q j = -1
theorem mem_ordIn {l : List Int} {a b : Int} : (a, b) ∈ ordIn l l.length ↔ ∃ i j : Nat, j < i ∧ l[j]? = some a ∧ l[i]? = some b := by
  unfold ordIn ordRow
  simp only [List.mem_flatMap, List.mem_range, List.mem_map, Prod.mk.injEq]
  constructor
  · rintro ⟨i, hi, x, hx, rfl, rfl⟩
    obtain ⟨j, hj, e⟩ := List.mem_iff_getElem.1 hx
    rw [List.length_take] at hj
    rw [List.getElem_take] at e
    exact ⟨i, j, by omega, by rw [List.getElem?_eq_getElem (by omega), e], by rw [List.getD_eq_getElem?_getD, List.getElem?_eq_getElem hi]; rfl⟩
  · rintro ⟨i, j, hji, h1, h2⟩
    have hi := (List.getElem?_eq_some_iff.1 h2).1
    refine ⟨i, hi, a, ?_, rfl, ?_⟩
    · refine List.mem_of_getElem? (i := j) ?_
      rw [List.getElem?_take, if_pos hji]
      exact h1
    · rw [List.getD_eq_getElem?_getD, h2]; rfl
theorem co_iff {g : Gr} {a b : Nat} : coB g a b = true ↔ ∃ (c : Nat) (l : List Int) (i j : Nat), g.co[c]? = some l ∧ j < i ∧ l[j]? = some ((a : Nat) : Int) ∧ l[i]? = some ((b : Nat) : Int) := by
  unfold coB ordAll
  rw [decide_eq_true_iff, List.take_length, List.mem_flatMap]
  constructor
  · rintro ⟨l, hl, h⟩
    obtain ⟨c, hc⟩ := List.getElem?_of_mem hl
    obtain ⟨i, j, h1, h2, h3⟩ := mem_ordIn.1 h
    exact ⟨c, l, i, j, hc, h1, h2, h3⟩
  · rintro ⟨c, l, i, j, hc, h1, h2, h3⟩
    exact ⟨l, List.mem_of_getElem? hc, mem_ordIn.2 ⟨i, j, h1, h2, h3⟩⟩
end Go.Proofs.YthiijcappjaagaaGreatDoor
namespace Go.Proofs.YthiijcappjaagaaGreatDoor
open Go.RowKit Go.Shelf Sx
theorem ref_answer {w w1 : World} {lo N r : Nat} {M : Value} {rb : Nat → Nat} {F : Nat → Nat → Bool} (hRM : RefM lo w1 M N N rb F) (hr : w.heap.size ≤ r) (hlo : r < lo) (hB : Below w.heap.size w w1) (u0 u1 : Value) :
    RefM w.heap.size ((w1.setCell ⟨r, 0, none⟩ u0).setCell ⟨r, 1, none⟩ u1) M N N rb F ∧ Below w.heap.size w ((w1.setCell ⟨r, 0, none⟩ u0).setCell ⟨r, 1, none⟩ u1) := by
  refine ⟨RefM.mono (hRM.below' fun g hg _ => ?_) (by omega), (hB.setCell (by simpa using hr) _).setCell (by simpa using hr) _⟩
  rw [Below.heap_setCell _ _ _ _ (by simp; omega), Below.heap_setCell _ _ _ _ (by simp; omega)]
theorem ofFn_mem {n : Nat} {p q : Nat} (hp : p < n) (hq : q < n) : ∀ (l : List (Int × Int)), ofFn n l p q = memB l p q := by
  intro l
  have key : ∀ k, k ≤ l.length → ofFn n (l.take k) p q = memB (l.take k) p q := by
    intro k
    induction k with
    | zero => intro _; simp [ofFn, memB]
    | succ k ih =>
      intro hk
      obtain ⟨⟨x, y⟩, hx⟩ : ∃ z, l[k]? = some z := ⟨_, List.getElem?_eq_getElem (by omega)⟩
      rw [← ofFn_take hx, List.take_add_one, hx]
      have ih := ih (by omega)
      unfold memB at ih ⊢
      simp only [Option.toList_some, List.mem_append, List.mem_singleton, Prod.mk.injEq]
      unfold putF
      by_cases hxy : (inR n x && inR n y) = true
      · rw [if_pos hxy]
        rw [Bool.and_eq_true] at hxy
        obtain ⟨i, rfl, hi⟩ := inR_true hxy.1
        obtain ⟨j, rfl, hj⟩ := inR_true hxy.2
        unfold upd
        by_cases h : p = i ∧ q = j
        · obtain ⟨rfl, rfl⟩ := h
          simp
        · rw [if_neg (by simpa using h), ih, Bool.eq_iff_iff]
          simp only [decide_eq_true_eq]
          exact ⟨fun h1 => .inl h1, fun h1 => h1.elim id (fun h2 => absurd ⟨by omega, by omega⟩ h)⟩
      · rw [if_neg hxy, ih, Bool.eq_iff_iff]
        simp only [decide_eq_true_eq]
        refine ⟨fun h1 => .inl h1, fun h1 => h1.elim id (fun h2 => absurd ?_ hxy)⟩
        rw [← h2.1, ← h2.2]
        simp [inR, hp, hq]
  have := key l.length (Nat.le_refl _)
  rwa [List.take_length] at this
set_option linter.unusedSimpArgs false in
set_option linter.unusedVariables false in
set_option maxRecDepth 100000 in
set_option maxHeartbeats 16000000 in
theorem r8Of_calls (V : GrV) (g : Gr) (v : Value) (l : List (Int × Int)) (w : World) (h : GrR w V g) (hv : PArg w v l) (hn : g.evs.length ≤ 256) : Calls Tryz.prog 68 #[V.val g, v] w fun e w' => ∃ M rb, e = .returned (.agg #[.int .i64 ((g.evs.length : Nat) : Int), M]) ∧ RefM w.heap.size w' M g.evs.length g.evs.length rb (memB l) ∧ Below w.heap.size w w' := by
  obtain ⟨Ve, Vr, Vc, Vm, Va, Vd, Vt⟩ := V
  obtain ⟨p1, k1, e1, hp, hlen, _⟩ := h.ev
  obtain ⟨p2, k2, e2, _, _⟩ := parg_form h.rf
  obtain ⟨p4, k4, e4, _, _⟩ := parg_form h.rmw
  obtain ⟨p5, k5, e5, _, _⟩ := parg_form h.addr
  obtain ⟨p6, k6, e6, _, _⟩ := parg_form h.dat
  obtain ⟨p7, k7, e7, _, _⟩ := parg_form h.ctrl
  obtain ⟨p3, k3, e3, hcl, hco⟩ := coarg_form h.co
  dsimp only at e1 e2 e3 e4 e5 e6 e7
  subst e1 e2 e3 e4 e5 e6 e7
  have HV := hid_of h
  have HP := hid_of hp
  have HCO := hid_of hco
  obtain ⟨pv0, cv0, rfl, _, _⟩ := parg_form hv
  have HPV := hid_of hv
  clear hv
  have HG0 := hid_of ((Blk.new w 26 #[.int .i64 g.cells, .slice p1 g.evs.length k1, .slice p2 g.rf.length k2, .slice p3 g.co.length k3, .slice p4 g.rmw.length k4, .slice p5 g.addr.length k5, .slice p6 g.dat.length k6, .slice p7 g.ctrl.length k7]).alloc (.cells #[.int .i64 0, .slice none 0 0] 87))
  have HR0 := hid_of (Blk.new2 w (.cells #[.int .i64 g.cells, .slice p1 g.evs.length k1, .slice p2 g.rf.length k2, .slice p3 g.co.length k3, .slice p4 g.rmw.length k4, .slice p5 g.addr.length k5, .slice p6 g.dat.length k6, .slice p7 g.ctrl.length k7] 26) 87 #[.int .i64 0, .slice none 0 0])
  have HB0 : Hid (Below w.heap.size w ((w.alloc (.cells #[.int .i64 g.cells, .slice p1 g.evs.length k1, .slice p2 g.rf.length k2, .slice p3 g.co.length k3, .slice p4 g.rmw.length k4, .slice p5 g.addr.length k5, .slice p6 g.dat.length k6, .slice p7 g.ctrl.length k7] 26)).alloc (.cells #[.int .i64 0, .slice none 0 0] 87))) := ((Below.refl _ w).alloc (Nat.le_refl _) _).alloc (by simp) _
  have HS0 : Hid (((w.alloc (.cells #[.int .i64 g.cells, .slice p1 g.evs.length k1, .slice p2 g.rf.length k2, .slice p3 g.co.length k3, .slice p4 g.rmw.length k4, .slice p5 g.addr.length k5, .slice p6 g.dat.length k6, .slice p7 g.ctrl.length k7] 26)).alloc (.cells #[.int .i64 0, .slice none 0 0] 87)).heap.size = w.heap.size + 2) := by rw [Hid]; simp
  unfold GrV.val
  dsimp only
  clear h hp hco
  go_enter Tryz.func68, Tryz.ntmps68
  go_upto_region 1 with fail
  generalize ((w.alloc (.cells #[.int .i64 g.cells, .slice p1 g.evs.length k1, .slice p2 g.rf.length k2, .slice p3 g.co.length k3, .slice p4 g.rmw.length k4, .slice p5 g.addr.length k5, .slice p6 g.dat.length k6, .slice p7 g.ctrl.length k7] 26)).alloc (.cells #[.int .i64 0, .slice none 0 0] 87)) = W0 at *
  have d1 : W0.cell? ⟨w.heap.size, 1, none⟩ = some (.slice p1 g.evs.length k1) := (HG0.out).cell rfl
  have D := hid_of (refOf_calls ((g.evs.length : Nat) : Int) _ l W0 (HPV.out.below HB0.out))
  rw [clamp_small hn] at D
  go_wp2_with fail
  refine D.out.mono ?_
  rintro e w1 ⟨M, rb, rfl, hRM, hB1⟩
  obtain ⟨xm, ym, zm, rfl⟩ := hRM.slice
  clear d1 D
  have hRM := hRM.congr (G := memB l) (fun p q hp hq => ofFn_mem hp hq l)
  have hr : Blk w1 (w.heap.size + 1) 87 #[.int .i64 0, .slice none 0 0] := HR0.out.of_below hB1
  have q0 := hr.cell (j := 0) rfl
  have q1 := hr.cell (j := 1) rfl
  have f0 := hr.frozen 0
  have f1 := hr.frozen 1
  go_wp2_with fail
  have hres := (hr.set 0 (.int .i64 ((g.evs.length : Nat) : Int))).set 1 (.slice xm ym zm)
  simp only [List.setIfInBounds_toArray, List.set_cons_zero, List.set_cons_succ] at hres
  (try simp only [Exit.inBlock, Exit.then])
  refine bodyPost_ret (ret_ref rfl rfl hres) rfl ?_
  obtain ⟨hA1, hB9⟩ := ref_answer (w := w) (r := w.heap.size + 1) hRM (by omega) (by have := HS0.out; omega) (below_step HB0.out HB0.out.size hB1) (.int .i64 ((g.evs.length : Nat) : Int)) (.slice xm ym zm)
  exact ⟨_, rb, rfl, hA1, hB9⟩
set_option linter.unusedSimpArgs false in
set_option linter.unusedVariables false in
set_option maxRecDepth 100000 in
set_option maxHeartbeats 16000000 in
theorem r8Rf_calls (V : GrV) (g : Gr) (w : World) (h : GrR w V g) (hn : g.evs.length ≤ 256) : Calls Tryz.prog 62 #[V.val g] w fun e w' => ∃ M rb, e = .returned (.agg #[.int .i64 ((g.evs.length : Nat) : Int), M]) ∧ RefM w.heap.size w' M g.evs.length g.evs.length rb (memB g.rf) ∧ Below w.heap.size w w' := by
  obtain ⟨Ve, Vr, Vc, Vm, Va, Vd, Vt⟩ := V
  obtain ⟨p1, k1, e1, hp, hlen, _⟩ := h.ev
  obtain ⟨p2, k2, e2, _, _⟩ := parg_form h.rf
  obtain ⟨p4, k4, e4, _, _⟩ := parg_form h.rmw
  obtain ⟨p5, k5, e5, _, _⟩ := parg_form h.addr
  obtain ⟨p6, k6, e6, _, _⟩ := parg_form h.dat
  obtain ⟨p7, k7, e7, _, _⟩ := parg_form h.ctrl
  obtain ⟨p3, k3, e3, hcl, hco⟩ := coarg_form h.co
  dsimp only at e1 e2 e3 e4 e5 e6 e7
  subst e1 e2 e3 e4 e5 e6 e7
  have HV := hid_of h
  have HP := hid_of hp
  have HCO := hid_of hco
  have HG0 := hid_of ((Blk.new w 26 #[.int .i64 g.cells, .slice p1 g.evs.length k1, .slice p2 g.rf.length k2, .slice p3 g.co.length k3, .slice p4 g.rmw.length k4, .slice p5 g.addr.length k5, .slice p6 g.dat.length k6, .slice p7 g.ctrl.length k7]).alloc (.cells #[.int .i64 0, .slice none 0 0] 87))
  have HR0 := hid_of (Blk.new2 w (.cells #[.int .i64 g.cells, .slice p1 g.evs.length k1, .slice p2 g.rf.length k2, .slice p3 g.co.length k3, .slice p4 g.rmw.length k4, .slice p5 g.addr.length k5, .slice p6 g.dat.length k6, .slice p7 g.ctrl.length k7] 26) 87 #[.int .i64 0, .slice none 0 0])
  have HB0 : Hid (Below w.heap.size w ((w.alloc (.cells #[.int .i64 g.cells, .slice p1 g.evs.length k1, .slice p2 g.rf.length k2, .slice p3 g.co.length k3, .slice p4 g.rmw.length k4, .slice p5 g.addr.length k5, .slice p6 g.dat.length k6, .slice p7 g.ctrl.length k7] 26)).alloc (.cells #[.int .i64 0, .slice none 0 0] 87))) := ((Below.refl _ w).alloc (Nat.le_refl _) _).alloc (by simp) _
  have HS0 : Hid (((w.alloc (.cells #[.int .i64 g.cells, .slice p1 g.evs.length k1, .slice p2 g.rf.length k2, .slice p3 g.co.length k3, .slice p4 g.rmw.length k4, .slice p5 g.addr.length k5, .slice p6 g.dat.length k6, .slice p7 g.ctrl.length k7] 26)).alloc (.cells #[.int .i64 0, .slice none 0 0] 87)).heap.size = w.heap.size + 2) := by rw [Hid]; simp
  unfold GrV.val
  dsimp only
  clear h hp hco
  go_enter Tryz.func62, Tryz.ntmps62
  go_upto_region 1 with fail
  generalize ((w.alloc (.cells #[.int .i64 g.cells, .slice p1 g.evs.length k1, .slice p2 g.rf.length k2, .slice p3 g.co.length k3, .slice p4 g.rmw.length k4, .slice p5 g.addr.length k5, .slice p6 g.dat.length k6, .slice p7 g.ctrl.length k7] 26)).alloc (.cells #[.int .i64 0, .slice none 0 0] 87)) = W0 at *
  have d0 : W0.cell? ⟨w.heap.size, 0, none⟩ = some (.int .i64 g.cells) := (HG0.out).cell rfl
  have d1 : W0.cell? ⟨w.heap.size, 1, none⟩ = some (.slice p1 g.evs.length k1) := (HG0.out).cell rfl
  have d2 : W0.cell? ⟨w.heap.size, 2, none⟩ = some (.slice p2 g.rf.length k2) := (HG0.out).cell rfl
  have d3 : W0.cell? ⟨w.heap.size, 3, none⟩ = some (.slice p3 g.co.length k3) := (HG0.out).cell rfl
  have d4 : W0.cell? ⟨w.heap.size, 4, none⟩ = some (.slice p4 g.rmw.length k4) := (HG0.out).cell rfl
  have d5 : W0.cell? ⟨w.heap.size, 5, none⟩ = some (.slice p5 g.addr.length k5) := (HG0.out).cell rfl
  have d6 : W0.cell? ⟨w.heap.size, 6, none⟩ = some (.slice p6 g.dat.length k6) := (HG0.out).cell rfl
  have d7 : W0.cell? ⟨w.heap.size, 7, none⟩ = some (.slice p7 g.ctrl.length k7) := (HG0.out).cell rfl
  have D := hid_of (r8Of_calls ⟨.slice p1 g.evs.length k1, .slice p2 g.rf.length k2, .slice p3 g.co.length k3, .slice p4 g.rmw.length k4, .slice p5 g.addr.length k5, .slice p6 g.dat.length k6, .slice p7 g.ctrl.length k7⟩ g _ g.rf W0 (HV.out.below HB0.out) ((HV.out.below HB0.out).rf) hn)
  unfold GrV.val at D
  dsimp only at D
  go_wp2_with fail
  refine D.out.mono ?_
  rintro e w1 ⟨M, rb, rfl, hRM, hB1⟩
  obtain ⟨xm, ym, zm, rfl⟩ := hRM.slice
  clear d0 d1 d2 d3 d4 d5 d6 d7 D
  have hr : Blk w1 (w.heap.size + 1) 87 #[.int .i64 0, .slice none 0 0] := HR0.out.of_below hB1
  have q0 := hr.cell (j := 0) rfl
  have q1 := hr.cell (j := 1) rfl
  have f0 := hr.frozen 0
  have f1 := hr.frozen 1
  go_wp2_with fail
  have hres := (hr.set 0 (.int .i64 ((g.evs.length : Nat) : Int))).set 1 (.slice xm ym zm)
  simp only [List.setIfInBounds_toArray, List.set_cons_zero, List.set_cons_succ] at hres
  (try simp only [Exit.inBlock, Exit.then])
  refine bodyPost_ret (ret_ref rfl rfl hres) rfl ?_
  obtain ⟨hA1, hB9⟩ := ref_answer (w := w) (r := w.heap.size + 1) hRM (by omega) (by have := HS0.out; omega) (below_step HB0.out HB0.out.size hB1) (.int .i64 ((g.evs.length : Nat) : Int)) (.slice xm ym zm)
  exact ⟨_, rb, rfl, hA1, hB9⟩
set_option linter.unusedSimpArgs false in
set_option linter.unusedVariables false in
set_option maxRecDepth 100000 in
set_option maxHeartbeats 16000000 in
theorem r8Rmw_calls (V : GrV) (g : Gr) (w : World) (h : GrR w V g) (hn : g.evs.length ≤ 256) : Calls Tryz.prog 65 #[V.val g] w fun e w' => ∃ M rb, e = .returned (.agg #[.int .i64 ((g.evs.length : Nat) : Int), M]) ∧ RefM w.heap.size w' M g.evs.length g.evs.length rb (memB g.rmw) ∧ Below w.heap.size w w' := by
  obtain ⟨Ve, Vr, Vc, Vm, Va, Vd, Vt⟩ := V
  obtain ⟨p1, k1, e1, hp, hlen, _⟩ := h.ev
  obtain ⟨p2, k2, e2, _, _⟩ := parg_form h.rf
  obtain ⟨p4, k4, e4, _, _⟩ := parg_form h.rmw
  obtain ⟨p5, k5, e5, _, _⟩ := parg_form h.addr
  obtain ⟨p6, k6, e6, _, _⟩ := parg_form h.dat
  obtain ⟨p7, k7, e7, _, _⟩ := parg_form h.ctrl
  obtain ⟨p3, k3, e3, hcl, hco⟩ := coarg_form h.co
  dsimp only at e1 e2 e3 e4 e5 e6 e7
  subst e1 e2 e3 e4 e5 e6 e7
  have HV := hid_of h
  have HP := hid_of hp
  have HCO := hid_of hco
  have HG0 := hid_of ((Blk.new w 26 #[.int .i64 g.cells, .slice p1 g.evs.length k1, .slice p2 g.rf.length k2, .slice p3 g.co.length k3, .slice p4 g.rmw.length k4, .slice p5 g.addr.length k5, .slice p6 g.dat.length k6, .slice p7 g.ctrl.length k7]).alloc (.cells #[.int .i64 0, .slice none 0 0] 87))
  have HR0 := hid_of (Blk.new2 w (.cells #[.int .i64 g.cells, .slice p1 g.evs.length k1, .slice p2 g.rf.length k2, .slice p3 g.co.length k3, .slice p4 g.rmw.length k4, .slice p5 g.addr.length k5, .slice p6 g.dat.length k6, .slice p7 g.ctrl.length k7] 26) 87 #[.int .i64 0, .slice none 0 0])
  have HB0 : Hid (Below w.heap.size w ((w.alloc (.cells #[.int .i64 g.cells, .slice p1 g.evs.length k1, .slice p2 g.rf.length k2, .slice p3 g.co.length k3, .slice p4 g.rmw.length k4, .slice p5 g.addr.length k5, .slice p6 g.dat.length k6, .slice p7 g.ctrl.length k7] 26)).alloc (.cells #[.int .i64 0, .slice none 0 0] 87))) := ((Below.refl _ w).alloc (Nat.le_refl _) _).alloc (by simp) _
  have HS0 : Hid (((w.alloc (.cells #[.int .i64 g.cells, .slice p1 g.evs.length k1, .slice p2 g.rf.length k2, .slice p3 g.co.length k3, .slice p4 g.rmw.length k4, .slice p5 g.addr.length k5, .slice p6 g.dat.length k6, .slice p7 g.ctrl.length k7] 26)).alloc (.cells #[.int .i64 0, .slice none 0 0] 87)).heap.size = w.heap.size + 2) := by rw [Hid]; simp
  unfold GrV.val
  dsimp only
  clear h hp hco
  go_enter Tryz.func65, Tryz.ntmps65
  go_upto_region 1 with fail
  generalize ((w.alloc (.cells #[.int .i64 g.cells, .slice p1 g.evs.length k1, .slice p2 g.rf.length k2, .slice p3 g.co.length k3, .slice p4 g.rmw.length k4, .slice p5 g.addr.length k5, .slice p6 g.dat.length k6, .slice p7 g.ctrl.length k7] 26)).alloc (.cells #[.int .i64 0, .slice none 0 0] 87)) = W0 at *
  have d0 : W0.cell? ⟨w.heap.size, 0, none⟩ = some (.int .i64 g.cells) := (HG0.out).cell rfl
  have d1 : W0.cell? ⟨w.heap.size, 1, none⟩ = some (.slice p1 g.evs.length k1) := (HG0.out).cell rfl
  have d2 : W0.cell? ⟨w.heap.size, 2, none⟩ = some (.slice p2 g.rf.length k2) := (HG0.out).cell rfl
  have d3 : W0.cell? ⟨w.heap.size, 3, none⟩ = some (.slice p3 g.co.length k3) := (HG0.out).cell rfl
  have d4 : W0.cell? ⟨w.heap.size, 4, none⟩ = some (.slice p4 g.rmw.length k4) := (HG0.out).cell rfl
  have d5 : W0.cell? ⟨w.heap.size, 5, none⟩ = some (.slice p5 g.addr.length k5) := (HG0.out).cell rfl
  have d6 : W0.cell? ⟨w.heap.size, 6, none⟩ = some (.slice p6 g.dat.length k6) := (HG0.out).cell rfl
  have d7 : W0.cell? ⟨w.heap.size, 7, none⟩ = some (.slice p7 g.ctrl.length k7) := (HG0.out).cell rfl
  have D := hid_of (r8Of_calls ⟨.slice p1 g.evs.length k1, .slice p2 g.rf.length k2, .slice p3 g.co.length k3, .slice p4 g.rmw.length k4, .slice p5 g.addr.length k5, .slice p6 g.dat.length k6, .slice p7 g.ctrl.length k7⟩ g _ g.rmw W0 (HV.out.below HB0.out) ((HV.out.below HB0.out).rmw) hn)
  unfold GrV.val at D
  dsimp only at D
  go_wp2_with fail
  refine D.out.mono ?_
  rintro e w1 ⟨M, rb, rfl, hRM, hB1⟩
  obtain ⟨xm, ym, zm, rfl⟩ := hRM.slice
  clear d0 d1 d2 d3 d4 d5 d6 d7 D
  have hr : Blk w1 (w.heap.size + 1) 87 #[.int .i64 0, .slice none 0 0] := HR0.out.of_below hB1
  have q0 := hr.cell (j := 0) rfl
  have q1 := hr.cell (j := 1) rfl
  have f0 := hr.frozen 0
  have f1 := hr.frozen 1
  go_wp2_with fail
  have hres := (hr.set 0 (.int .i64 ((g.evs.length : Nat) : Int))).set 1 (.slice xm ym zm)
  simp only [List.setIfInBounds_toArray, List.set_cons_zero, List.set_cons_succ] at hres
  (try simp only [Exit.inBlock, Exit.then])
  refine bodyPost_ret (ret_ref rfl rfl hres) rfl ?_
  obtain ⟨hA1, hB9⟩ := ref_answer (w := w) (r := w.heap.size + 1) hRM (by omega) (by have := HS0.out; omega) (below_step HB0.out HB0.out.size hB1) (.int .i64 ((g.evs.length : Nat) : Int)) (.slice xm ym zm)
  exact ⟨_, rb, rfl, hA1, hB9⟩
set_option linter.unusedSimpArgs false in
set_option maxRecDepth 100000 in
set_option maxHeartbeats 4000000 in
theorem r8Kinds_calls (V : GrV) (g : Gr) (x : Int) (w : World) (h : GrR w V g) :
    Calls Tryz.prog 69 #[V.val g, .int .i64 x] w fun r w' => ∃ u, r = .returned u ∧ w'.ownsRow w.heap.size 4 1 u (truL (fun e => e.k == x) g.evs).length (encBs (truL (fun e => e.k == x) g.evs)) ∧ Below w.heap.size w w' := by
  obtain ⟨i0, hi, hz0, hz1, hz2⟩ := info_parts Tryz.infobool
  obtain ⟨Ve, Vr, Vc, Vm, Va, Vd, Vt⟩ := V
  obtain ⟨pe, ce, ee, hp, hlen, _⟩ := h.ev
  dsimp only at ee
  subst ee
  have HP := hid_of hp
  have hB : Below w.heap.size w (w.alloc (.cells #[.int .i64 g.cells, .slice pe g.evs.length ce, Vr, Vc, Vm, Va, Vd, Vt] 26)) := (Below.refl _ _).alloc (Nat.le_refl _) _
  have hb := Blk.new w 26 #[.int .i64 g.cells, .slice pe g.evs.length ce, Vr, Vc, Vm, Va, Vd, Vt]
  unfold GrV.val
  dsimp only
  clear h hp
  go_enter Tryz.func69, Tryz.ntmps69
  go_wp2_with fail
  have HB := hid_of hB
  have HG := hid_of hb
  generalize w.alloc (.cells #[.int .i64 g.cells, .slice pe g.evs.length ce, Vr, Vc, Vm, Va, Vd, Vt] 26) = W0 at *
  clear hb hB
  go_loopg [5, 6] g.evs.length (fun f ov i wr => ∃ k : Nat, i = .int .i64 ((k : Nat) : Int) ∧ k ≤ g.evs.length ∧ Hid (k + f = g.evs.length) ∧ Hid (wr.ownsRow W0.heap.size 4 1 ov (truL (fun e => e.k == x) (g.evs.take k)).length (encBs (truL (fun e => e.k == x) (g.evs.take k)))) ∧ Hid (Below W0.heap.size W0 wr))
  case atStart => exact ⟨0, rfl, Nat.zero_le _, Nat.zero_add _, World.ownsRow_nil _ _ _ _, Below.refl _ _⟩
  case round =>
    obtain ⟨k, rfl, hk, HKF, HO, HW⟩ := hrel
    obtain ⟨oa, ocap, rfl⟩ := owns_len HO.out
    have HBW : Hid (Below w.heap.size w wr) := below_step HB.out HB.out.size HW.out
    have c1 : wr.cell? ⟨w.heap.size, 1, none⟩ = some (.slice pe g.evs.length ce) := (HG.out.of_below HW.out).cell rfl
    by_cases hlt : k < g.evs.length
    · obtain ⟨s, o, rfl, hat⟩ := HP.out (by omega)
      have x1 := (hat.below HBW.out).c1 k _ (evs_at hlt)
      have K0 : (0 : Int) ≤ ((k : Nat) : Int) := by omega
      have K1 : ((k : Nat) : Int) < ((g.evs.length : Nat) : Int) := by omega
      have HSN := hid_of (truL_snoc (P := fun e => e.k == x) (evs_at hlt))
      have htl : (truL (fun e => e.k == x) (g.evs.take k)).length ≤ k := by simp [truL]; omega
      have hsz := HW.out.size
      clear hat
      generalize (g.evs.getD k Ev.zero).k = kk at *
      generalize truL (fun e => e.k == x) (g.evs.take k) = tkk at *
      go_wp2_with (at_builtin; refine wpList_append_own_at _ rfl _ _ 34 rfl W0.heap.size 4 i0 (.bool false) 1 1 Tryz.underlying34 hi hz0 hz1 hz2 rfl (by decide) (.slice oa tkk.length ocap) tkk.length (encBs tkk) rfl (HO.out.alloc _) ⟨_, 0, none⟩ 1 1 [.bool (kk == x)] rfl rfl (news_one wr 4 _) (by simp [Value.oneCell']) (by unfold maxLen; omega) (by omega) (by simp; omega) ?_; intro v5 w5 hown' hgrow _ _)
      have hb5 : Below W0.heap.size W0 w5 := (HW.out.alloc hsz _).grown hgrow (by simp; omega) (fun q e => (HO.out.lt q e).1)
      go_roundg (g.evs.length - (k + 1))
      case measure => have := HKF.out; omega
      case rel => exact ⟨k + 1, by go_num, by omega, by have := HKF.out; rw [Hid]; omega, by rw [Hid, HSN.out, List.length_append, encBs, List.map_append]; exact hown', hb5⟩
    · obtain rfl : k = g.evs.length := by omega
      go_wp2_with fail
      go_ret
      refine ⟨_, rfl, ?_, HBW.out⟩
      have := owns_lo HO.out HB.out.size
      simp only [List.take_length] at this ⊢
      exact this
def rowFrom (l : List Int) (i j : Nat) : List (Int × Int) := ((l.take j).drop (i + 1)).map (fun b => (l.getD i 0, b))
def coRows (l : List Int) (i : Nat) : List (Int × Int) := (List.range i).flatMap (fun k => rowFrom l k l.length)
def coL (g : Gr) (c i j : Nat) : List (Int × Int) := (g.co.take c).flatMap (fun l => coRows l l.length) ++ coRows (g.co.getD c []) i ++ rowFrom (g.co.getD c []) i j
theorem rowFrom_none (l : List Int) (i : Nat) : rowFrom l i (i + 1) = [] := by
  unfold rowFrom
  rw [List.drop_eq_nil_of_le (by simp; omega)]
  rfl
theorem rowFrom_succ {l : List Int} {i j : Nat} {x y : Int} (hij : i + 1 ≤ j) (hx : l[i]? = some x) (hy : l[j]? = some y) : rowFrom l i (j + 1) = rowFrom l i j ++ [(x, y)] := by
  have hj := (List.getElem?_eq_some_iff.1 hy).1
  unfold rowFrom
  rw [List.take_add_one, hy, List.drop_append_of_le_length (by simp; omega), List.map_append, List.getD_eq_getElem?_getD, hx]
  rfl
theorem coL_zero (g : Gr) : coL g 0 0 1 = [] := by
  unfold coL
  rw [rowFrom_none]
  simp [coRows]
theorem coL_put {g : Gr} {c i j : Nat} {l : List Int} {x y : Int} (hl : g.co[c]? = some l) (hij : i + 1 ≤ j) (hx : l[i]? = some x) (hy : l[j]? = some y) : coL g c i (j + 1) = coL g c i j ++ [(x, y)] := by
  unfold coL
  rw [List.getD_eq_getElem?_getD, hl, Option.getD_some, rowFrom_succ hij hx hy]
  simp only [List.append_assoc]
theorem coL_row {g : Gr} {c i : Nat} {l : List Int} (hl : g.co[c]? = some l) : coL g c i l.length = coL g c (i + 1) (i + 1 + 1) := by
  unfold coL
  rw [List.getD_eq_getElem?_getD, hl, Option.getD_some, rowFrom_none]
  unfold coRows
  rw [List.range_succ, List.flatMap_append]
  simp
theorem coL_list {g : Gr} {c : Nat} {l : List Int} (hl : g.co[c]? = some l) : coL g c l.length (l.length + 1) = coL g (c + 1) 0 1 := by
  unfold coL
  rw [rowFrom_none, List.getD_eq_getElem?_getD, hl, Option.getD_some, List.take_add_one, hl, List.flatMap_append]
  have : coRows (g.co.getD (c + 1) []) 0 = [] := by simp [coRows]
  rw [rowFrom_none, this]
  simp
theorem upd_mem {S : List (Int × Int)} {a b p q : Nat} : upd (memB S) a b true p q = memB (S ++ [(((a : Nat) : Int), ((b : Nat) : Int))]) p q := by
  unfold upd memB
  by_cases h : p = a ∧ q = b
  · obtain ⟨rfl, rfl⟩ := h
    simp
  · rw [if_neg h, Bool.eq_iff_iff]
    simp only [decide_eq_true_eq, List.mem_append, List.mem_singleton, Prod.mk.injEq]
    exact ⟨fun h1 => .inl h1, fun h1 => h1.elim id (fun h2 => absurd ⟨by omega, by omega⟩ h)⟩
theorem mem_rowFrom {l : List Int} {i : Nat} (hi : i < l.length) {x y : Int} : (x, y) ∈ rowFrom l i l.length ↔ l[i]? = some x ∧ ∃ j, i < j ∧ l[j]? = some y := by
  unfold rowFrom
  rw [List.take_length]
  simp only [List.mem_map, Prod.mk.injEq]
  rw [List.getD_eq_getElem?_getD, List.getElem?_eq_getElem hi]
  constructor
  · rintro ⟨b, hb, h1, rfl⟩
    obtain ⟨k, hk⟩ := List.getElem?_of_mem hb
    rw [List.getElem?_drop] at hk
    exact ⟨by rw [← h1]; rfl, i + 1 + k, by omega, hk⟩
  · rintro ⟨h1, j, hij, hj⟩
    refine ⟨y, ?_, by simpa using h1, rfl⟩
    refine List.mem_of_getElem? (i := j - (i + 1)) ?_
    rw [List.getElem?_drop, show i + 1 + (j - (i + 1)) = j by omega]
    exact hj
theorem coL_all (g : Gr) (p q : Nat) : memB (coL g g.co.length 0 1) p q = coB g p q := by
  rw [Bool.eq_iff_iff, co_iff]
  unfold coL memB
  rw [rowFrom_none, List.take_length]
  have h0 : coRows (g.co.getD g.co.length []) 0 = [] := by simp [coRows]
  rw [h0, List.append_nil, List.append_nil, decide_eq_true_iff, List.mem_flatMap]
  constructor
  · rintro ⟨l, hl, h⟩
    obtain ⟨c, hc⟩ := List.getElem?_of_mem hl
    unfold coRows at h
    obtain ⟨i, hi, h⟩ := List.mem_flatMap.1 h
    obtain ⟨h1, j, h2, h3⟩ := (mem_rowFrom (List.mem_range.1 hi)).1 h
    exact ⟨c, l, j, i, hc, h2, h1, h3⟩
  · rintro ⟨c, l, i, j, hc, h1, h2, h3⟩
    refine ⟨l, List.mem_of_getElem? hc, ?_⟩
    have hj := (List.getElem?_eq_some_iff.1 h2).1
    unfold coRows
    exact List.mem_flatMap.2 ⟨j, List.mem_range.2 hj, (mem_rowFrom hj).2 ⟨h2, i, h1, h3⟩⟩
set_option linter.unusedSimpArgs false in
set_option linter.unusedVariables false in
set_option maxRecDepth 100000 in
set_option maxHeartbeats 16000000 in
theorem r8Co_calls (V : GrV) (g : Gr) (qw : Bool) (w : World) (h : GrR w V g) (hn : g.evs.length ≤ 256) (hw : Wf g qw) : Calls Tryz.prog 63 #[V.val g] w fun e w' => ∃ M rb, e = .returned (.agg #[.int .i64 ((g.evs.length : Nat) : Int), M]) ∧ RefM w.heap.size w' M g.evs.length g.evs.length rb (coB g) ∧ Below w.heap.size w w' := by
  obtain ⟨Ve, Vr, Vc, Vm, Va, Vd, Vt⟩ := V
  obtain ⟨p1, k1, e1, hp, hlen, _⟩ := h.ev
  obtain ⟨p2, k2, e2, _, _⟩ := parg_form h.rf
  obtain ⟨p4, k4, e4, _, _⟩ := parg_form h.rmw
  obtain ⟨p5, k5, e5, _, _⟩ := parg_form h.addr
  obtain ⟨p6, k6, e6, _, _⟩ := parg_form h.dat
  obtain ⟨p7, k7, e7, _, _⟩ := parg_form h.ctrl
  obtain ⟨p3, k3, e3, hcl, hco⟩ := coarg_form h.co
  dsimp only at e1 e2 e3 e4 e5 e6 e7
  subst e1 e2 e3 e4 e5 e6 e7
  have HV := hid_of h
  have HP := hid_of hp
  have HCO := hid_of hco
  have HW := hid_of hw
  clear hw
  have hcl2 : g.co.length ≤ 256 := by have h1 := rl0 (HW.out 0 (by omega)); have h2 := (ok5 HW.out).1; simp [bad1] at h1; omega
  have HG0 := hid_of ((Blk.new w 26 #[.int .i64 g.cells, .slice p1 g.evs.length k1, .slice p2 g.rf.length k2, .slice p3 g.co.length k3, .slice p4 g.rmw.length k4, .slice p5 g.addr.length k5, .slice p6 g.dat.length k6, .slice p7 g.ctrl.length k7]).alloc (.cells #[.int .i64 0, .slice none 0 0] 87))
  have c1 : ((w.alloc (.cells #[.int .i64 g.cells, .slice p1 g.evs.length k1, .slice p2 g.rf.length k2, .slice p3 g.co.length k3, .slice p4 g.rmw.length k4, .slice p5 g.addr.length k5, .slice p6 g.dat.length k6, .slice p7 g.ctrl.length k7] 26)).alloc (.cells #[.int .i64 0, .slice none 0 0] 87)).cell? ⟨w.heap.size, 1, none⟩ = some (.slice p1 g.evs.length k1) := HG0.out.cell rfl
  unfold GrV.val
  dsimp only
  clear h hp hco
  go_enter Tryz.func63, Tryz.ntmps63
  go_wp2_with fail
  refine (refNew_mid g.evs.length hn _).mono ?_
  rintro e w1 ⟨M, rbw, rfl, hRM, hB1⟩
  obtain ⟨xm, ym, zm, rfl⟩ := hRM.slice
  have hA : MkAt w (w1.alloc (.cells #[.int .i64 ((g.evs.length : Nat) : Int), .slice xm ym zm] 87)) 2 [(1, #[.int .i64 0, .slice none 0 0])] w1.heap.size g.evs.length (.slice xm ym zm) rbw (memB (coL g 0 0 1)) := by
    refine MkAt.begin (((Below.refl _ w).alloc (Nat.le_refl _) _).alloc (by simp) _) (by simp) ?_ (hRM.congr fun p q hp hq => ?_) hB1
    · intro x hx
      simp only [List.mem_cons, List.not_mem_nil, or_false] at hx
      subst hx
      exact ⟨by omega, Blk.new2 w _ _ _⟩
    · rw [coL_zero]; simp [memB]
  have hG := ((HG0.out.of_below hB1).alloc (.cells #[.int .i64 ((g.evs.length : Nat) : Int), .slice xm ym zm] 87))
  clear hRM hB1 HG0 c1
  go_wp2_with fail
  generalize w1.heap.size = B at *
  go_loopw [4] (fun i wr => ∃ c, c ≤ g.co.length ∧ i = .int .i64 ((c : Nat) : Int) ∧ MkAt w wr 2 [(1, #[.int .i64 0, .slice none 0 0])] B g.evs.length (.slice xm ym zm) rbw (memB (coL g c 0 1)) ∧ Blk wr w.heap.size 26 #[.int .i64 g.cells, .slice p1 g.evs.length k1, .slice p2 g.rf.length k2, .slice p3 g.co.length k3, .slice p4 g.rmw.length k4, .slice p5 g.addr.length k5, .slice p6 g.dat.length k6, .slice p7 g.ctrl.length k7]) (fun i _ => g.co.length - (intOf i).toNat)
  case atStart => exact ⟨0, by omega, rfl, hA, hG⟩
  case round =>
    clear hA hG
    obtain ⟨c, hc, rfl, hA, hG⟩ := hrel
    have g3 : wr.cell? ⟨w.heap.size, 3, none⟩ = some (.slice p3 g.co.length k3) := hG.cell rfl
    by_cases hltc : c < g.co.length
    · obtain ⟨l, hl⟩ : ∃ l, g.co[c]? = some l := ⟨_, List.getElem?_eq_getElem hltc⟩
      obtain ⟨s, o, u, rfl, hs, hcu, hiu, hul⟩ := HCO.out c l hl
      obtain ⟨hpos, hall⟩ := co_list HW.out hl
      obtain ⟨s2, o2, c2, rfl, hs2, hcx⟩ := hiu.some hpos
      have HL := hid_of hl
      have HALL := hid_of hall
      have HCX := hid_of hcx
      have HCU := hid_of hcu
      have hll : l.length ≤ 256 := by have h1 := (ok5 HW.out).2 c l hl; have h2 := (ord_parts h1).1; have h3 := wrs_len g ((c : Nat) : Int) g.evs.length; omega
      have CC0 : (0 : Int) ≤ ((c : Nat) : Int) := by omega
      have CC1 : ((c : Nat) : Int) < ((g.co.length : Nat) : Int) := by omega
      clear hl hall hcx hcu hiu
      go_wp2_with fail
      clear g3
      go_loopw [5] (fun i wr => ∃ b, b ≤ l.length ∧ i = .int .i64 ((b : Nat) : Int) ∧ MkAt w wr 2 [(1, #[.int .i64 0, .slice none 0 0])] B g.evs.length (.slice xm ym zm) rbw (memB (coL g c b (b + 1))) ∧ Blk wr w.heap.size 26 #[.int .i64 g.cells, .slice p1 g.evs.length k1, .slice p2 g.rf.length k2, .slice (some ⟨s, o, none⟩) g.co.length k3, .slice p4 g.rmw.length k4, .slice p5 g.addr.length k5, .slice p6 g.dat.length k6, .slice p7 g.ctrl.length k7]) (fun i _ => l.length - (intOf i).toNat)
      case atStart => exact ⟨0, by omega, rfl, hA, hG⟩
      case round =>
        clear hA hG
        obtain ⟨i, hi0, rfl, hA, hG⟩ := hrel
        have g3 : wr.cell? ⟨w.heap.size, 3, none⟩ = some (.slice (some ⟨s, o, none⟩) g.co.length k3) := hG.cell rfl
        have g4 : wr.cell? ⟨s, o + c, none⟩ = some (.slice (some ⟨s2, o2, none⟩) l.length c2) := (hA.below.cell (p := ⟨s, o + c, none⟩) hs).trans HCU.out
        by_cases hil : i < l.length
        · obtain ⟨x, hx⟩ : ∃ x, l[i]? = some x := ⟨_, List.getElem?_eq_getElem hil⟩
          obtain ⟨xi, rfl, hxi, _⟩ := HALL.out x (List.mem_of_getElem? hx)
          have HX := hid_of hx
          clear hx
          have I0 : (0 : Int) ≤ ((i : Nat) : Int) := by omega
          have I1 : ((i : Nat) : Int) < ((l.length : Nat) : Int) := by omega
          have iw : IntKind.i64.wrap (((i : Nat) : Int) + 1) = ((i + 1 : Nat) : Int) := by rw [show (((i : Nat) : Int) + 1) = ((i + 1 : Nat) : Int) by omega]; exact wrap_small' (by omega)
          go_wp2_with fail
          clear g3 g4
          go_loopw [6] (fun i6 wr => ∃ j, i + 1 ≤ j ∧ j ≤ l.length ∧ i6 = .int .i64 ((j : Nat) : Int) ∧ MkAt w wr 2 [(1, #[.int .i64 0, .slice none 0 0])] B g.evs.length (.slice xm ym zm) rbw (memB (coL g c i j)) ∧ Blk wr w.heap.size 26 #[.int .i64 g.cells, .slice p1 g.evs.length k1, .slice p2 g.rf.length k2, .slice (some ⟨s, o, none⟩) g.co.length k3, .slice p4 g.rmw.length k4, .slice p5 g.addr.length k5, .slice p6 g.dat.length k6, .slice p7 g.ctrl.length k7]) (fun i _ => l.length - (intOf i).toNat)
          case atStart => exact ⟨i + 1, Nat.le_refl _, by omega, by first | rfl | go_num, hA, hG⟩
          case round =>
            clear hA hG
            obtain ⟨j, hij, hj0, rfl, hA, hG⟩ := hrel
            generalize hwq : wr = wx at *
            clear hwq
            have g3 : wx.cell? ⟨w.heap.size, 3, none⟩ = some (.slice (some ⟨s, o, none⟩) g.co.length k3) := hG.cell rfl
            have g4 : wx.cell? ⟨s, o + c, none⟩ = some (.slice (some ⟨s2, o2, none⟩) l.length c2) := (hA.below.cell (p := ⟨s, o + c, none⟩) hs).trans HCU.out
            by_cases hjl : j < l.length
            · obtain ⟨y, hy⟩ : ∃ x, l[j]? = some x := ⟨_, List.getElem?_eq_getElem hjl⟩
              obtain ⟨yj, rfl, hyj, _⟩ := HALL.out y (List.mem_of_getElem? hy)
              have HY := hid_of hy
              clear hy
              have J0 : (0 : Int) ≤ ((j : Nat) : Int) := by omega
              have J1 : ((j : Nat) : Int) < ((l.length : Nat) : Int) := by omega
              have X0 : (0 : Int) ≤ ((xi : Nat) : Int) := by omega
              have X1 : ((xi : Nat) : Int) < ((g.evs.length : Nat) : Int) := by omega
              have Y0 : (0 : Int) ≤ ((yj : Nat) : Int) := by omega
              have Y1 : ((yj : Nat) : Int) < ((g.evs.length : Nat) : Int) := by omega
              obtain ⟨g2, cap2, e2, q2, _, n2, s0, s1, fz, q3⟩ := hA.ref.at_ hxi hyj
              cases e2
              have HZ : Hid (∀ W F, MkAt w W 2 [(1, #[.int .i64 0, .slice none 0 0])] B g.evs.length (.slice (some ⟨g2, 0, none⟩) g.evs.length zm) rbw F → Blk W w.heap.size 26 #[.int .i64 g.cells, .slice p1 g.evs.length k1, .slice p2 g.rf.length k2, .slice (some ⟨s, o, none⟩) g.co.length k3, .slice p4 g.rmw.length k4, .slice p5 g.addr.length k5, .slice p6 g.dat.length k6, .slice p7 g.ctrl.length k7] → W.cell? ⟨B, 1, none⟩ = some (.slice (some ⟨g2, 0, none⟩) g.evs.length zm) ∧ W.cell? ⟨g2, xi, none⟩ = some (hdr g.evs.length (rbw xi)) ∧ W.cell? ⟨w.heap.size, 3, none⟩ = some (.slice (some ⟨s, o, none⟩) g.co.length k3) ∧ W.cell? ⟨s, o + c, none⟩ = some (.slice (some ⟨s2, o2, none⟩) l.length c2) ∧ W.cell? ⟨s2, o2 + i, none⟩ = some (.int .i64 ((xi : Nat) : Int)) ∧ W.cell? ⟨s2, o2 + j, none⟩ = some (.int .i64 ((yj : Nat) : Int))) := fun W F hA hG => ⟨hA.box.cell rfl, (by obtain ⟨g5, cap3, e3, _, _, _, s0, _⟩ := hA.ref.at_ hxi hyj; cases e3; exact s0), hG.cell rfl, (hA.below.cell (p := ⟨s, o + c, none⟩) hs).trans HCU.out, (hA.below.cell (p := ⟨s2, o2 + i, none⟩) hs2).trans (HCX.out i _ HX.out), (hA.below.cell (p := ⟨s2, o2 + j, none⟩) hs2).trans (HCX.out j _ HY.out)⟩
              have HHA := hid_of hA.drew
              have HHG := hid_of hG.drew
              clear s0 s1 fz hA hG
              obtain ⟨g5, cap4, e4, _, _, _, _, s5, f5, _⟩ := HHA.out.ref.at_ hxi hyj
              cases e4
              go_upto_region 11 with fail
              clear g3 g4
              refine wp_region_held_drew (S := fun W => W.cell? ⟨B, 1, none⟩ = some (.slice (some ⟨g2, 0, none⟩) g.evs.length zm) ∧ W.cell? ⟨g2, xi, none⟩ = some (hdr g.evs.length (rbw xi)) ∧ W.cell? ⟨w.heap.size, 3, none⟩ = some (.slice (some ⟨s, o, none⟩) g.co.length k3) ∧ W.cell? ⟨s, o + c, none⟩ = some (.slice (some ⟨s2, o2, none⟩) l.length c2) ∧ W.cell? ⟨s2, o2 + i, none⟩ = some (.int .i64 ((xi : Nat) : Int)) ∧ W.cell? ⟨s2, o2 + j, none⟩ = some (.int .i64 ((yj : Nat) : Int))) (by kernel_rfl) (HZ.out _ _ HHA.out HHG.out) (fun hHeld => ?_)
              refine tk 0 rfl ?_; simp only [zz]
              refine tk 1 rfl ?_; simp only [zz]
              refine tk 2 rfl ?_; simp only [zz]
              refine tk 3 rfl ?_; simp only [zz]
              refine tk 4 rfl ?_; simp only [zz]
              refine tk 5 rfl ?_; simp only [zz]
              refine tk 6 rfl ?_; simp only [zz]
              refine tk 7 rfl ?_; simp only [zz]
              refine tk 8 rfl ?_; simp only [zz]
              refine tk 9 rfl ?_; simp only [zz]
              refine tk 10 rfl ?_; simp only [zz]
              refine tk 11 rfl ?_; simp only [zz]
              refine tk 12 rfl ?_; simp only [zz]
              refine tk 13 rfl ?_; simp only [zz]
              refine tk 14 rfl ?_; simp only [zz]
              refine tk 15 rfl ?_; simp only [zz]
              refine tk 16 rfl ?_; simp only [zz]
              refine tk 17 rfl ?_; simp only [zz]
              refine tk 18 rfl ?_; simp only [zz]
              refine tk 19 rfl ?_; simp only [zz]
              refine tk 20 rfl ?_; simp only [zz]
              refine wpAnyH_ready (rs := [21]) (by kernel_rfl) (by simp) ?_
              refine AllReadyH.cons rfl (fun K hK => ?_) AllReadyH.nil
              simp only [z1, z2, z3]
              go_simp
              refine hK.out _ _ (HZ.out _ _ (HHA.out.put hxi hyj _) (HHG.out.setOther (by have := (HHA.out.ref.row xi hxi).1; simp; omega) _)) (fun hHeld => ?_)
              clear hK K
              try simp only [zz]
              refine wpAnyH_done (by kernel_rfl) ?_ _
              go_wp2_with fail
              refine ⟨⟨j + 1, by omega, by omega, by go_num, (HHA.out.put hxi hyj _).congr (fun p r _ _ => by rw [coL_put HL.out hij HX.out HY.out]; exact upd_mem), HHG.out.setOther (by have := (HHA.out.ref.row xi hxi).1; simp; omega) _⟩, by simp [intOf]; omega⟩
            · obtain rfl : j = l.length := by omega
              rw [coL_row HL.out] at hA
              go_wp2_with fail
              refine ⟨⟨i + 1, by omega, by go_num, hA, hG⟩, by simp [intOf]; omega⟩
        · obtain rfl : i = l.length := by omega
          rw [coL_list HL.out] at hA
          go_wp2_with fail
          refine ⟨⟨c + 1, by omega, by go_num, hA, hG⟩, by simp [intOf]; omega⟩
    · obtain rfl : c = g.co.length := by omega
      have hA := hA.congr (G := coB g) (fun p q hp hq => coL_all g p q)
      have b0 := hA.box.cell (j := 0) rfl
      have b1 := hA.box.cell (j := 1) rfl
      have hr := hA.fst
      have d0 := hr.cell (j := 0) rfl
      have d1 := hr.cell (j := 1) rfl
      have f0 := hr.frozen 0
      have f1 := hr.frozen 1
      go_wp2_with fail
      have hres := (hr.set 0 (.int .i64 ((g.evs.length : Nat) : Int))).set 1 (.slice xm ym zm)
      simp only [List.setIfInBounds_toArray, List.set_cons_zero, List.set_cons_succ] at hres
      (try simp only [Exit.inBlock, Exit.then])
      refine bodyPost_ret (ret_ref rfl rfl hres) rfl ?_
      obtain ⟨hA1, hB1⟩ := hA.answer (r := 1) (by omega)
      exact ⟨_, rbw, rfl, hA1, hB1⟩
theorem fr_fn {g : Gr} {p q : Nat} (hp : p < g.evs.length) (hq : q < g.evs.length) : cmpF (extF g.evs.length (fun p q => memB g.rf q p)) (extF g.evs.length (coB g)) g.evs.length p q = frB g p q := by
  rw [Bool.eq_iff_iff, cmpF_iff]
  unfold frB extF
  rw [List.any_eq_true]
  constructor
  · rintro ⟨r, hr, h1, h2⟩
    refine ⟨r, List.mem_range.2 hr, ?_⟩
    simp [hp, hq, hr] at h1 h2
    simp [h1, h2]
  · rintro ⟨r, hr, h1⟩
    have hr := List.mem_range.1 hr
    simp at h1
    exact ⟨r, hr, by simp [hp, hr, h1.1], by simp [hq, hr, h1.2]⟩
set_option linter.unusedSimpArgs false in
set_option linter.unusedVariables false in
set_option maxRecDepth 100000 in
set_option maxHeartbeats 16000000 in
theorem r8Fr_calls (V : GrV) (g : Gr) (qw : Bool) (w : World) (h : GrR w V g) (hn : g.evs.length ≤ 256) (hw : Wf g qw) : Calls Tryz.prog 64 #[V.val g] w fun e w' => ∃ M rb, e = .returned (.agg #[.int .i64 ((g.evs.length : Nat) : Int), M]) ∧ RefM w.heap.size w' M g.evs.length g.evs.length rb (frB g) ∧ Below w.heap.size w w' := by
  obtain ⟨Ve, Vr, Vc, Vm, Va, Vd, Vt⟩ := V
  obtain ⟨p1, k1, e1, hp, hlen, _⟩ := h.ev
  obtain ⟨p2, k2, e2, _, _⟩ := parg_form h.rf
  obtain ⟨p4, k4, e4, _, _⟩ := parg_form h.rmw
  obtain ⟨p5, k5, e5, _, _⟩ := parg_form h.addr
  obtain ⟨p6, k6, e6, _, _⟩ := parg_form h.dat
  obtain ⟨p7, k7, e7, _, _⟩ := parg_form h.ctrl
  obtain ⟨p3, k3, e3, hcl, hco⟩ := coarg_form h.co
  dsimp only at e1 e2 e3 e4 e5 e6 e7
  subst e1 e2 e3 e4 e5 e6 e7
  have HV := hid_of h
  have HP := hid_of hp
  have HCO := hid_of hco
  have HW := hid_of hw
  clear hw
  have HG0 := hid_of ((Blk.new w 26 #[.int .i64 g.cells, .slice p1 g.evs.length k1, .slice p2 g.rf.length k2, .slice p3 g.co.length k3, .slice p4 g.rmw.length k4, .slice p5 g.addr.length k5, .slice p6 g.dat.length k6, .slice p7 g.ctrl.length k7]).alloc (.cells #[.int .i64 0, .slice none 0 0] 87))
  have HR0 := hid_of (Blk.new2 w (.cells #[.int .i64 g.cells, .slice p1 g.evs.length k1, .slice p2 g.rf.length k2, .slice p3 g.co.length k3, .slice p4 g.rmw.length k4, .slice p5 g.addr.length k5, .slice p6 g.dat.length k6, .slice p7 g.ctrl.length k7] 26) 87 #[.int .i64 0, .slice none 0 0])
  have HB0 : Hid (Below w.heap.size w ((w.alloc (.cells #[.int .i64 g.cells, .slice p1 g.evs.length k1, .slice p2 g.rf.length k2, .slice p3 g.co.length k3, .slice p4 g.rmw.length k4, .slice p5 g.addr.length k5, .slice p6 g.dat.length k6, .slice p7 g.ctrl.length k7] 26)).alloc (.cells #[.int .i64 0, .slice none 0 0] 87))) := ((Below.refl _ w).alloc (Nat.le_refl _) _).alloc (by simp) _
  have HS0 : Hid (((w.alloc (.cells #[.int .i64 g.cells, .slice p1 g.evs.length k1, .slice p2 g.rf.length k2, .slice p3 g.co.length k3, .slice p4 g.rmw.length k4, .slice p5 g.addr.length k5, .slice p6 g.dat.length k6, .slice p7 g.ctrl.length k7] 26)).alloc (.cells #[.int .i64 0, .slice none 0 0] 87)).heap.size = w.heap.size + 2) := by rw [Hid]; simp
  unfold GrV.val
  dsimp only
  clear h hp hco
  go_enter Tryz.func64, Tryz.ntmps64
  go_upto_region 1 with fail
  generalize ((w.alloc (.cells #[.int .i64 g.cells, .slice p1 g.evs.length k1, .slice p2 g.rf.length k2, .slice p3 g.co.length k3, .slice p4 g.rmw.length k4, .slice p5 g.addr.length k5, .slice p6 g.dat.length k6, .slice p7 g.ctrl.length k7] 26)).alloc (.cells #[.int .i64 0, .slice none 0 0] 87)) = W0 at *
  have HZ : Hid (∀ W, Blk W w.heap.size 26 #[.int .i64 g.cells, .slice p1 g.evs.length k1, .slice p2 g.rf.length k2, .slice p3 g.co.length k3, .slice p4 g.rmw.length k4, .slice p5 g.addr.length k5, .slice p6 g.dat.length k6, .slice p7 g.ctrl.length k7] → W.cell? ⟨w.heap.size, 0, none⟩ = some (.int .i64 g.cells) ∧ W.cell? ⟨w.heap.size, 1, none⟩ = some (.slice p1 g.evs.length k1) ∧ W.cell? ⟨w.heap.size, 2, none⟩ = some (.slice p2 g.rf.length k2) ∧ W.cell? ⟨w.heap.size, 3, none⟩ = some (.slice p3 g.co.length k3) ∧ W.cell? ⟨w.heap.size, 4, none⟩ = some (.slice p4 g.rmw.length k4) ∧ W.cell? ⟨w.heap.size, 5, none⟩ = some (.slice p5 g.addr.length k5) ∧ W.cell? ⟨w.heap.size, 6, none⟩ = some (.slice p6 g.dat.length k6) ∧ W.cell? ⟨w.heap.size, 7, none⟩ = some (.slice p7 g.ctrl.length k7)) := fun W hG => ⟨hG.cell rfl, hG.cell rfl, hG.cell rfl, hG.cell rfl, hG.cell rfl, hG.cell rfl, hG.cell rfl, hG.cell rfl⟩
  have hXd : Below W0.heap.size W0 W0.drew := (Below.refl _ _).drew
  refine wp_region_held_drew (S := fun W => W.cell? ⟨w.heap.size, 0, none⟩ = some (.int .i64 g.cells) ∧ W.cell? ⟨w.heap.size, 1, none⟩ = some (.slice p1 g.evs.length k1) ∧ W.cell? ⟨w.heap.size, 2, none⟩ = some (.slice p2 g.rf.length k2) ∧ W.cell? ⟨w.heap.size, 3, none⟩ = some (.slice p3 g.co.length k3) ∧ W.cell? ⟨w.heap.size, 4, none⟩ = some (.slice p4 g.rmw.length k4) ∧ W.cell? ⟨w.heap.size, 5, none⟩ = some (.slice p5 g.addr.length k5) ∧ W.cell? ⟨w.heap.size, 6, none⟩ = some (.slice p6 g.dat.length k6) ∧ W.cell? ⟨w.heap.size, 7, none⟩ = some (.slice p7 g.ctrl.length k7)) (by kernel_rfl) (HZ.out _ (HG0.out.of_below hXd)) (fun hHeld => ?_)
  refine tk 0 rfl ?_; simp only [zz]
  refine tk 3 rfl ?_; simp only [zz]
  refine wpAnyH_ready (rs := [1]) (by kernel_rfl) (by simp) ?_
  refine AllReadyH.cons rfl (fun K hK => ?_) AllReadyH.nil
  simp only [z1, z2, z3]
  go_simp
  have D := r8Rf_calls ⟨.slice p1 g.evs.length k1, .slice p2 g.rf.length k2, .slice p3 g.co.length k3, .slice p4 g.rmw.length k4, .slice p5 g.addr.length k5, .slice p6 g.dat.length k6, .slice p7 g.ctrl.length k7⟩ g W0.drew (HV.out.below (below_step HB0.out HB0.out.size hXd)) hn
  unfold GrV.val at D
  dsimp only at D
  refine D.mono ?_
  rintro e v1 ⟨MA, rbA, rfl, hRMA, hBA⟩
  obtain ⟨xA, yA, tA, rfl⟩ := hRMA.slice
  have hXA : Below W0.heap.size W0 v1 := below_step hXd hXd.size hBA
  clear D
  refine hK.out _ _ (HZ.out _ (HG0.out.of_below hXA)) (fun hHeld => ?_)
  clear hK K
  try simp only [zz]
  refine wpAnyH_ready (rs := [2]) (by kernel_rfl) (by simp) ?_
  refine AllReadyH.cons rfl (fun K hK => ?_) AllReadyH.nil
  simp only [z1, z2, z3]
  go_simp
  have D := refInverse_calls _ g.evs.length hn xA yA tA rbA (memB g.rf) v1 hRMA
  refine D.mono ?_
  rintro e v2 ⟨MI, rbI, rfl, hRMI, hBI⟩
  obtain ⟨xI, yI, tI, rfl⟩ := hRMI.slice
  have hXI : Below W0.heap.size W0 v2 := below_step hXA hXA.size hBI
  clear D
  refine hK.out _ _ (HZ.out _ (HG0.out.of_below hXI)) (fun hHeld => ?_)
  clear hK K
  try simp only [zz]
  refine wpAnyH_ready (rs := [4]) (by kernel_rfl) (by simp) ?_
  refine AllReadyH.cons rfl (fun K hK => ?_) AllReadyH.nil
  simp only [z1, z2, z3]
  go_simp
  have D := r8Co_calls ⟨.slice p1 g.evs.length k1, .slice p2 g.rf.length k2, .slice p3 g.co.length k3, .slice p4 g.rmw.length k4, .slice p5 g.addr.length k5, .slice p6 g.dat.length k6, .slice p7 g.ctrl.length k7⟩ g qw v2 (HV.out.below (below_step HB0.out HB0.out.size hXI)) hn HW.out
  unfold GrV.val at D
  dsimp only at D
  refine D.mono ?_
  rintro e v3 ⟨MC, rbC, rfl, hRMC, hBC⟩
  obtain ⟨xC, yC, tC, rfl⟩ := hRMC.slice
  have hXC : Below W0.heap.size W0 v3 := below_step hXI hXI.size hBC
  clear D
  refine hK.out _ _ (HZ.out _ (HG0.out.of_below hXC)) (fun hHeld => ?_)
  clear hK K
  try simp only [zz]
  refine wpAnyH_ready (rs := [5]) (by kernel_rfl) (by simp) ?_
  refine AllReadyH.cons rfl (fun K hK => ?_) AllReadyH.nil
  simp only [z1, z2, z3]
  go_simp
  have D := refComp_calls _ _ g.evs.length g.evs.length g.evs.length hn hn (by rw [Hid]; omega) xI yI tI rbI _ xC yC tC rbC _ v3 (hRMI.below hBC) hRMC
  refine D.mono ?_
  rintro e v4 ⟨M, rb, rfl, hRM, hB4⟩
  obtain ⟨xm, ym, zm, rfl⟩ := hRM.slice
  have hX4 : Below W0.heap.size W0 v4 := below_step hXC hXC.size hB4
  have hr : Blk v4 (w.heap.size + 1) 87 #[.int .i64 0, .slice none 0 0] := HR0.out.of_below hX4
  have q0 := hr.cell (j := 0) rfl
  have q1 := hr.cell (j := 1) rfl
  have f0 := hr.frozen 0
  have f1 := hr.frozen 1
  clear D
  refine hK.out _ _ (HZ.out _ (HG0.out.of_below hX4)) (fun hHeld => ?_)
  clear hK K
  try simp only [zz]
  refine wpAnyH_ready (rs := [6]) (by kernel_rfl) (by simp) ?_
  refine AllReadyH.cons rfl (fun K hK => ?_) AllReadyH.nil
  simp only [z1, z2, z3]
  go_simp
  refine hK.out _ _ (HZ.out _ (((HG0.out.of_below hX4).setOther (by simp) _).setOther (by simp) _)) (fun hHeld => ?_)
  clear hK K
  try simp only [zz]
  refine wpAnyH_done (by kernel_rfl) ?_ _
  have hRM := hRM.congr (G := frB g) (fun p q hp hq => fr_fn hp hq)
  go_wp2_with fail
  have hres := (hr.set 0 (.int .i64 ((g.evs.length : Nat) : Int))).set 1 (.slice xm ym zm)
  simp only [List.setIfInBounds_toArray, List.set_cons_zero, List.set_cons_succ] at hres
  (try simp only [Exit.inBlock, Exit.then])
  refine bodyPost_ret (ret_ref rfl rfl hres) rfl ?_
  obtain ⟨hA1, hB9⟩ := ref_answer (w := w) (r := w.heap.size + 1) hRM (by omega) (by have := HS0.out; have := hXC.size; omega) (below_step HB0.out HB0.out.size hX4) (.int .i64 ((g.evs.length : Nat) : Int)) (.slice xm ym zm)
  exact ⟨_, rb, rfl, hA1, hB9⟩
end Go.Proofs.YthiijcappjaagaaGreatDoor
namespace Go.Proofs.YthiijcappjaagaaGreatDoor
open Go.RowKit Go.Shelf Sx
theorem thr_all {g : Gr} {q : Bool} (h : Wf g q) {i : Nat} (hi : i < g.evs.length) : (g.ev i).t = -1 ∨ 0 ≤ (g.ev i).t := by
  by_cases hc : ((i : Nat) : Int) < g.cells
  · rw [ok2_ev (h 1 (by omega)) hc]
    exact .inl rfl
  · have := ok3_ev (h 2 (by omega)) (by omega) hi
    unfold okEv at this
    simp at this
    omega
theorem bef_po2 {g : Gr} {q : Bool} (h : Wf g q) {a b : Nat} (ha : a < g.evs.length) (hb : b < g.evs.length) : befB g.evs ((a : Nat) : Int) ((b : Nat) : Int) = poB g.evs a b := by
  have h0 := thr_all h ha
  unfold befB poB
  rw [Int.toNat_natCast, Int.toNat_natCast]
  have e0 : (g.evs.getD a Ev.zero).t = (g.ev a).t := rfl
  have e1 : (g.evs.getD b Ev.zero).t = (g.ev b).t := rfl
  rw [e0, e1, Bool.eq_iff_iff]
  simp only [Bool.and_eq_true, decide_eq_true_eq]
  omega
structure Ten (w : World) (n : Nat) (bs cs : Nat → Nat) : Prop where
  rel : ∀ i, i < 10 → ∃ L, IsRel w (bs i) (cs i) L ∧ L.length = n
  inj : ∀ i j, i < 10 → j < 10 → cs i = cs j → i = j
theorem Ten.below {w w' : World} {n : Nat} {bs cs : Nat → Nat} (h : Ten w n bs cs) (hb : Below w.heap.size w w') : Ten w' n bs cs :=
  ⟨fun i hi => by obtain ⟨L, h1, h2⟩ := h.rel i hi; exact ⟨L, h1.below hb, h2⟩, h.inj⟩
theorem Ten.put {w w' : World} {n i : Nat} {bs cs : Nat → Nat} {L' : List Nat} (h : Ten w n bs cs) (hi : i < 10) (hr : IsRel w' (bs i) (cs i) L') (hl : L'.length = n) (ht : Touch (cs i) w w') : Ten w' n bs cs := by
  refine ⟨fun j hj => ?_, h.inj⟩
  by_cases e : j = i
  · subst e; exact ⟨L', hr, hl⟩
  · obtain ⟨L, h1, h2⟩ := h.rel j hj
    obtain ⟨K, k1, _⟩ := h.rel i hi
    exact ⟨L, h1.touch ht (blk_ne h1.head k1.rows (by decide)) (fun e' => e (h.inj j i hj hi e')), h2⟩
def kx (i : Nat) : Nat := [0, 1, 2, 12, 3, 4, 5, 6, 7, 8].getD i 0
theorem kx_lt : ∀ i, i < 10 → kx i < 13 := by decide
theorem kx_inj : ∀ i, i < 10 → ∀ j, j < 10 → kx i = kx j → i = j := by decide
theorem DerAt.le {g : Gr} {B : Nat} {v : Nat → Value} {f : Value} {lo : Nat → Nat} {w : World} (h : DerAt g B v f lo w) {a b : Nat} (hab : a ≤ b) (hb : b ≤ 13) : lo a ≤ lo b := by
  induction b with
  | zero => obtain rfl : a = 0 := by omega
            exact Nat.le_refl _
  | succ b ih =>
    by_cases e : a = b + 1
    · subst e; exact Nat.le_refl _
    · exact Nat.le_trans (ih (by omega) (by omega)) (h.mono b (by omega))
theorem DerAt.one {g : Gr} {B : Nat} {v : Nat → Value} {f : Value} {lo : Nat → Nat} {w : World} (h : DerAt g B v f lo w) {i k : Nat} (hi : i < 9) (hk : (outV v f)[k]? = some (v i)) : ∃ b c, (outV v f)[k]? = some (pv b) ∧ (∃ L, IsRel w b c L ∧ L.length = g.evs.length) ∧ lo i ≤ c ∧ c < lo (i + 1) := by
  obtain ⟨b, c, L, e, hr, ht, _, h2, _, h4⟩ := (h.res i (by omega)).rel hi
  exact ⟨b, c, by rw [hk, e], ⟨L, hr, ht.len⟩, h2, h4⟩
theorem DerAt.ten {g : Gr} {B : Nat} {v : Nat → Value} {f : Value} {lo : Nat → Nat} {w : World} (h : DerAt g B v f lo w) :
    ∃ bs cs : Nat → Nat, Ten w g.evs.length bs cs ∧ (∀ i, i < 10 → (outV v f)[i]? = some (pv (bs i))) ∧ ∀ i, i < 10 → B ≤ cs i ∧ cs i < lo 13 := by
  have hx : ∀ i, i < 10 → ∃ b c, (outV v f)[i]? = some (pv b) ∧ (∃ L, IsRel w b c L ∧ L.length = g.evs.length) ∧ lo (kx i) ≤ c ∧ c < lo (kx i + 1) := by
    intro i hi
    match i, hi with
    | 0, _ => exact h.one (i := 0) (by omega) rfl
    | 1, _ => exact h.one (i := 1) (by omega) rfl
    | 2, _ => exact h.one (i := 2) (by omega) rfl
    | 3, _ =>
      obtain ⟨b, c, L, e, hr, ht, _, h2, _, h4⟩ := h.fr
      exact ⟨b, c, congrArg some e, ⟨L, hr, ht.len⟩, h2, h4⟩
    | 4, _ => exact h.one (i := 3) (by omega) rfl
    | 5, _ => exact h.one (i := 4) (by omega) rfl
    | 6, _ => exact h.one (i := 5) (by omega) rfl
    | 7, _ => exact h.one (i := 6) (by omega) rfl
    | 8, _ => exact h.one (i := 7) (by omega) rfl
    | 9, _ => exact h.one (i := 8) (by omega) rfl
    | n + 10, h => omega
  let bs : Nat → Nat := fun i => if hi : i < 10 then Classical.choose (hx i hi) else 0
  let cs : Nat → Nat := fun i => if hi : i < 10 then Classical.choose (Classical.choose_spec (hx i hi)) else 0
  have key : ∀ i, i < 10 → (outV v f)[i]? = some (pv (bs i)) ∧ (∃ L, IsRel w (bs i) (cs i) L ∧ L.length = g.evs.length) ∧ lo (kx i) ≤ cs i ∧ cs i < lo (kx i + 1) := by
    intro i hi
    have := Classical.choose_spec (Classical.choose_spec (hx i hi))
    simp only [bs, cs, dif_pos hi]
    exact this
  refine ⟨bs, cs, ⟨fun i hi => (key i hi).2.1, fun i j hi hj e => ?_⟩, fun i hi => (key i hi).1, fun i hi => ?_⟩
  · obtain ⟨_, _, a1, a2⟩ := key i hi
    obtain ⟨_, _, b1, b2⟩ := key j hj
    have k1 := kx_lt i hi
    have k2 := kx_lt j hj
    apply kx_inj i hi j hj
    rcases Nat.lt_trichotomy (kx i) (kx j) with hh | hh | hh
    · have := h.le (a := kx i + 1) (b := kx j) (by omega) (by omega)
      omega
    · exact hh
    · have := h.le (a := kx j + 1) (b := kx i) (by omega) (by omega)
      omega
  · obtain ⟨_, _, a1, a2⟩ := key i hi
    have k1 := kx_lt i hi
    have h1 := h.le (a := 0) (b := kx i) (by omega) (by omega)
    have h2 := h.le (a := kx i + 1) (b := 13) (by omega) (by omega)
    have h3 := h.bot
    omega
def Up (m : Nat) (W w : World) : Prop := W.heap.size ≤ w.heap.size ∧ ∀ k, m ≤ k → k < W.heap.size → w.heap[k]? = W.heap[k]?
theorem Up.refl (m : Nat) (W : World) : Up m W W := ⟨Nat.le_refl _, fun _ _ _ => rfl⟩
theorem Up.step {m : Nat} {W w w' : World} (h : Up m W w) (hb : Below w.heap.size w w') : Up m W w' := ⟨Nat.le_trans h.1 hb.size, fun k h1 h2 => (hb.block k (Nat.lt_of_lt_of_le h2 h.1)).trans (h.2 k h1 h2)⟩
theorem Up.touch {m c : Nat} {W w w' : World} (h : Up m W w) (hb : Touch c w w') (hc : c < m) : Up m W w' := ⟨Nat.le_trans h.1 hb.size, fun k h1 h2 => (hb.block k (Nat.lt_of_lt_of_le h2 h.1) (by omega)).trans (h.2 k h1 h2)⟩
theorem Up.blk {m b : Nat} {W w : World} {t : TypeId} {cs : Array Value} (h : Up m W w) (hb : Blk W b t cs) (hm : m ≤ b) : Blk w b t cs := (h.2 b hm hb.lt).trans hb
theorem Up.rel {m b c : Nat} {W w : World} {L : List Nat} (h : Up m W w) (hr : IsRel W b c L) (h1 : m ≤ b) (h2 : m ≤ c) : IsRel w b c L := ⟨hr.ne, h.blk hr.head h1, h.blk hr.rows h2, hr.len, hr.low⟩
theorem Up.relIn {m lo hi n : Nat} {W w : World} {v : Value} {F : Nat → Nat → Bool} (h : Up m W w) (hr : RelIn W lo hi v n F) (hm : m ≤ lo) : RelIn w lo hi v n F := by
  obtain ⟨b, c, L, e, h1, h2, h3, h4, h5⟩ := hr
  exact ⟨b, c, L, e, h.rel h1 (by omega) (by omega), h2, h3, h4, h5⟩
theorem Up.res {m : Nat} {g : Gr} {i : Nat} {v : Value} {W w : World} {lo hi : Nat} (h : Up m W w) (hr : RES g i v W lo hi) (hm : m ≤ lo) : RES g i v w lo hi := by
  unfold RES at hr ⊢
  by_cases e : i < 9
  · rw [if_pos e] at hr ⊢; exact h.relIn hr hm
  · rw [if_neg e] at hr ⊢
    obtain ⟨b, h1, h2, h3, h4⟩ := hr
    exact ⟨b, h1, h.blk h2 (by omega), h3, h4⟩
theorem DerAt.up {g : Gr} {B m : Nat} {v : Nat → Value} {f : Value} {lo : Nat → Nat} {W w : World} (hd : DerAt g B v f lo W) (h : Up m W w) (hm : m ≤ B) : DerAt g B v f lo w := by
  have hl : ∀ i, i ≤ 13 → m ≤ lo i := fun i hi => by have := hd.le (a := 0) (b := i) (by omega) hi; have := hd.bot; omega
  exact ⟨fun i hi => h.res (hd.res i hi) (hl i (by omega)), h.relIn hd.fr (hl 12 (by omega)), hd.mono, Nat.le_trans hd.top h.1, hd.bot⟩
theorem DerAt.below {g : Gr} {B : Nat} {v : Nat → Value} {f : Value} {lo : Nat → Nat} {W w : World} (hd : DerAt g B v f lo W) (h : Below W.heap.size W w) : DerAt g B v f lo w := hd.up ((Up.refl B W).step h) (Nat.le_refl _)
def BlsAt (w : World) (b n : Nat) : Prop := ∃ l : List Bool, Blk w b 4 (arrB l) ∧ l.length = n
theorem BlsAt.below {w w' : World} {b n : Nat} (h : BlsAt w b n) (hb : Below w.heap.size w w') : BlsAt w' b n := by
  obtain ⟨l, h1, h2⟩ := h
  exact ⟨l, h1.of_below hb, h2⟩
theorem BlsAt.touch {w w' : World} {b n c : Nat} {rows : Array Value} (h : BlsAt w b n) (ht : Touch c w w') (hr : Blk w c 96 rows) : BlsAt w' b n := by
  obtain ⟨l, h1, h2⟩ := h
  exact ⟨l, h1.touch ht (blk_ne h1 hr (by decide)), h2⟩
theorem BlsAt.put {w : World} {b n : Nat} (h : BlsAt w b n) (j : Nat) (x : Bool) : BlsAt (w.setCell ⟨b, j, none⟩ (.bool x)) b n := by
  obtain ⟨l, h1, h2⟩ := h
  exact ⟨l.set j x, by rw [← arrB_set]; exact h1.set j _, by simp [h2]⟩
theorem BlsAt.other {w : World} {b b' n : Nat} (h : BlsAt w b n) (hne : b ≠ b') (j : Nat) (x : Value) : BlsAt (w.setCell ⟨b', j, none⟩ x) b n := by
  obtain ⟨l, h1, h2⟩ := h
  exact ⟨l, h1.setOther (a := ⟨b', j, none⟩) hne x, h2⟩
theorem BlsAt.at_ {w : World} {b n j : Nat} (h : BlsAt w b n) (hj : j < n) : ∃ x, w.cell? ⟨b, j, none⟩ = some (.bool x) ∧ w.frozen? ⟨b, j, none⟩ = false := by
  obtain ⟨l, h1, h2⟩ := h
  exact ⟨_, arrB_at h1 (by omega), h1.frozen j⟩
structure Dw (W2 W9 : World) (fa n br bw bf : Nat) (w : World) : Prop where
  low : Below W2.heap.size W2 w
  up : Up fa W9 w
  rd : BlsAt w br n
  wt : BlsAt w bw n
  fe : BlsAt w bf n
theorem Dw.step {W2 W9 : World} {fa n br bw bf : Nat} {w w' : World} (h : Dw W2 W9 fa n br bw bf w) (hb : Below w.heap.size w w') : Dw W2 W9 fa n br bw bf w' :=
  ⟨below_step h.low h.low.size hb, h.up.step hb, h.rd.below hb, h.wt.below hb, h.fe.below hb⟩
theorem Dw.drew {W2 W9 : World} {fa n br bw bf : Nat} {w : World} (h : Dw W2 W9 fa n br bw bf w) : Dw W2 W9 fa n br bw bf w.drew := h.step (Below.refl _ _).drew
theorem Dw.touch {W2 W9 : World} {fa n br bw bf c : Nat} {w w' : World} {rows : Array Value} (h : Dw W2 W9 fa n br bw bf w) (ht : Touch c w w') (hr : Blk w c 96 rows) (h1 : W2.heap.size ≤ c) (h2 : c < fa) : Dw W2 W9 fa n br bw bf w' :=
  ⟨h.low.trans (ht.below h1 h.low.size), h.up.touch ht h2, h.rd.touch ht hr, h.wt.touch ht hr, h.fe.touch ht hr⟩
theorem Up.set {m b : Nat} {W w : World} (h : Up m W w) (hb : b < m) (j : Nat) (x : Value) : Up m W (w.setCell ⟨b, j, none⟩ x) :=
  ⟨Nat.le_trans h.1 (by simp), fun k h1 h2 => (Below.heap_setCell _ _ _ _ (by simp; omega)).trans (h.2 k h1 h2)⟩
theorem Dw.put {W2 W9 : World} {fa n br bw bf b : Nat} {w : World} (h : Dw W2 W9 fa n br bw bf w) (hb : b = br ∨ b = bw ∨ b = bf) (h1 : W2.heap.size ≤ b) (h2 : b < fa) (hd : br ≠ bw ∧ br ≠ bf ∧ bw ≠ bf) (j : Nat) (x : Bool) : Dw W2 W9 fa n br bw bf (w.setCell ⟨b, j, none⟩ (.bool x)) := by
  obtain ⟨d1, d2, d3⟩ := hd
  refine ⟨h.low.setCell h1 _, h.up.set h2 j _, ?_, ?_, ?_⟩
  · rcases hb with e | e | e
    · subst e; exact h.rd.put j x
    · exact h.rd.other (by omega) j _
    · exact h.rd.other (by omega) j _
  · rcases hb with e | e | e
    · exact h.wt.other (by omega) j _
    · subst e; exact h.wt.put j x
    · exact h.wt.other (by omega) j _
  · rcases hb with e | e | e
    · exact h.fe.other (by omega) j _
    · exact h.fe.other (by omega) j _
    · subst e; exact h.fe.put j x
structure Dv (W2 W9 : World) (fa n br bw bf : Nat) (bs cs : Nat → Nat) (w : World) : Prop where
  dw : Dw W2 W9 fa n br bw bf w
  ten : Ten w n bs cs
theorem Dv.step {W2 W9 : World} {fa n br bw bf : Nat} {bs cs : Nat → Nat} {w w' : World} (h : Dv W2 W9 fa n br bw bf bs cs w) (hb : Below w.heap.size w w') : Dv W2 W9 fa n br bw bf bs cs w' := ⟨h.dw.step hb, h.ten.below hb⟩
theorem Dv.put {W2 W9 : World} {fa n br bw bf i : Nat} {bs cs : Nat → Nat} {w w' : World} {L L' : List Nat} (h : Dv W2 W9 fa n br bw bf bs cs w) (hi : i < 10) (hl : IsRel w (bs i) (cs i) L) (hr : IsRel w' (bs i) (cs i) L') (hn : L'.length = n) (ht : Touch (cs i) w w') (h1 : W2.heap.size ≤ cs i) (h2 : cs i < fa) : Dv W2 W9 fa n br bw bf bs cs w' :=
  ⟨h.dw.touch ht hl.rows h1 h2, h.ten.put hi hr hn ht⟩
theorem ten_cells (bs : Nat → Nat) : ∀ i, i < 10 → (#[pv (bs 0), pv (bs 1), pv (bs 2), pv (bs 3), pv (bs 4), pv (bs 5), pv (bs 6), pv (bs 7), pv (bs 8), pv (bs 9)] : Array Value)[i]? = some (pv (bs i)) := by
  intro i hi
  match i, hi with
  | 0, _ => rfl
  | 1, _ => rfl
  | 2, _ => rfl
  | 3, _ => rfl
  | 4, _ => rfl
  | 5, _ => rfl
  | 6, _ => rfl
  | 7, _ => rfl
  | 8, _ => rfl
  | 9, _ => rfl
  | n + 10, h => omega
theorem DerAt.sets {g : Gr} {B : Nat} {v : Nat → Value} {f : Value} {lo : Nat → Nat} {w : World} (h : DerAt g B v f lo w) :
    ∃ br bw bf, v 9 = .slice (some ⟨br, 0, none⟩) g.evs.length g.evs.length ∧ v 10 = .slice (some ⟨bw, 0, none⟩) g.evs.length g.evs.length ∧ v 11 = .slice (some ⟨bf, 0, none⟩) g.evs.length g.evs.length ∧
      BlsAt w br g.evs.length ∧ BlsAt w bw g.evs.length ∧ BlsAt w bf g.evs.length ∧ (br ≠ bw ∧ br ≠ bf ∧ bw ≠ bf) ∧ (B ≤ br ∧ br < lo 13) ∧ (B ≤ bw ∧ bw < lo 13) ∧ (B ≤ bf ∧ bf < lo 13) := by
  obtain ⟨br, er, hr, r1, r2⟩ := (h.res 9 (by omega)).tru (by omega)
  obtain ⟨bw, ew, hw, w1, w2⟩ := (h.res 10 (by omega)).tru (by omega)
  obtain ⟨bf, ef, hf, f1, f2⟩ := (h.res 11 (by omega)).tru (by omega)
  rw [kndL_length] at er ew ef
  have h0 := h.le (a := 0) (b := 9) (by omega) (by omega)
  have h1 := h.mono 9 (by omega)
  have h2 := h.mono 10 (by omega)
  have h3 := h.mono 11 (by omega)
  have h4 := h.mono 12 (by omega)
  have hB := h.bot
  refine ⟨br, bw, bf, er, ew, ef, ⟨_, hr, kndL_length _ _⟩, ⟨_, hw, kndL_length _ _⟩, ⟨_, hf, kndL_length _ _⟩, ⟨?_, ?_, ?_⟩, ⟨?_, ?_⟩, ⟨?_, ?_⟩, ⟨?_, ?_⟩⟩ <;> simp at * <;> omega
end Go.Proofs.YthiijcappjaagaaGreatDoor
namespace Go.Proofs.YthiijcappjaagaaGreatDoor
open Go.RowKit Go.Shelf Sx
theorem l8pairs_same (u v : Value) (l : List (Int × Int)) (w : World) (h1 : PArg w u l) (h2 : PArg w v l) : Calls Tryz.prog 48 #[u, v] w fun r w' => r = .returned (.bool true) ∧ Below w.heap.size w w' :=
  (l8pairs_calls u v l l w h1 h2).mono fun e w' h => ⟨by rw [h.1]; simp, h.2⟩
set_option linter.unusedSimpArgs false in
set_option linter.unusedVariables false in
set_option maxRecDepth 100000 in
set_option maxHeartbeats 16000000 in
theorem l8is_calls {n : Nat} {F F' : Nat → Nat → Bool} {L : List Nat} {b c lo : Nat} {M : Value} {rb : Nat → Nat} (w : World) (hr : IsRel w b c L) (ht : TwR n F L) (hn : n ≤ 256) (hM : RefM lo w M n n rb F') (hFF : ∀ p q, p < n → q < n → F' p q = F p q) (hT : Tab w) :
    Calls Tryz.prog 60 #[pv b, .agg #[.int .i64 ((n : Nat) : Int), M]] w fun e w' => e = .returned (.bool true) ∧ Below w.heap.size w w' := by
  obtain ⟨x, y, z, rfl⟩ := hM.slice
  have HL : Hid (L.length = n) := ht.len
  have HP : Hid (pairsL L = prsF n F n 0) := twin_pairs hn (twr_twin ht hr)
  have HM : Hid (RefM lo w (.slice x y z) n n rb F) := hM.congr hFF
  have HPL : Hid ((prsF n F n 0).length ≤ 9223372036854775807) := by rw [← HP.out]; unfold pairsL; have := pairsK_length L L.length; have := HL.out; rw [Hid]; omega
  have HR := hid_of hr
  have HT := hid_of hT
  have hB0 : Below w.heap.size w (w.alloc (.cells #[.int .i64 ((n : Nat) : Int), .slice x y z] 87)) := (Below.refl _ _).alloc (Nat.le_refl _) _
  have hb0 := Blk.new w 87 #[.int .i64 ((n : Nat) : Int), .slice x y z]
  clear hr ht hM hFF hT
  go_enter Tryz.func60, Tryz.ntmps60
  go_upto_region 1 with fail
  have HB0 := hid_of hB0
  have HG0 := hid_of hb0
  generalize w.alloc (.cells #[.int .i64 ((n : Nat) : Int), .slice x y z] 87) = W0 at *
  clear hB0 hb0
  have HZ : Hid (∀ W, Below W0.heap.size W0 W → W.cell? ⟨w.heap.size, 0, none⟩ = some (.int .i64 ((n : Nat) : Int)) ∧ W.cell? ⟨w.heap.size, 1, none⟩ = some (.slice x y z)) := fun W hW => ⟨(HG0.out.of_below hW).cell rfl, (HG0.out.of_below hW).cell rfl⟩
  have HBX : Hid (∀ W, Below W0.heap.size W0 W → Below w.heap.size w W) := fun W hW => below_step HB0.out HB0.out.size hW
  have hXd : Below W0.heap.size W0 W0.drew := (Below.refl _ _).drew
  refine wp_region_held_drew (S := fun W => W.cell? ⟨w.heap.size, 0, none⟩ = some (.int .i64 ((n : Nat) : Int)) ∧ W.cell? ⟨w.heap.size, 1, none⟩ = some (.slice x y z)) (by kernel_rfl) (HZ.out _ hXd) (fun hHeld => ?_)
  refine tk 0 rfl ?_; simp only [zz]
  refine tk 1 rfl ?_; simp only [zz]
  refine tk 2 rfl ?_; simp only [zz]
  refine tk 3 rfl ?_; simp only [zz]
  refine tk 5 rfl ?_; simp only [zz]
  refine tk 6 rfl ?_; simp only [zz]
  refine wpAnyH_ready (rs := [4]) (by kernel_rfl) (by simp) ?_
  refine AllReadyH.cons rfl (fun K hK => ?_) AllReadyH.nil
  simp only [z1, z2, z3]
  go_simp
  have D := Len_calls b c L _ (HR.out.below (HBX.out _ hXd))
  rw [HL.out] at D
  refine D.mono ?_
  rintro e a1 ⟨rfl, rfl⟩
  clear D
  refine hK.out _ _ (HZ.out _ hXd) (fun hHeld => ?_)
  clear hK K
  try simp only [zz]
  refine tk 7 rfl ?_; simp only [zz]
  refine tk 8 rfl ?_; simp only [zz]
  refine tk 9 rfl ?_; simp only [zz]
  refine tk 10 rfl ?_; simp only [zz]
  refine tk 12 rfl ?_; simp only [zz]
  refine wpAnyH_ready (rs := [11]) (by kernel_rfl) (by simp) ?_
  refine AllReadyH.cons rfl (fun K hK => ?_) AllReadyH.nil
  simp only [z1, z2, z3]
  go_simp
  have D := Pairs_calls b c L _ (HR.out.below (HBX.out _ hXd)) (HT.out.step' (HBX.out _ hXd))
  rw [HP.out] at D
  refine D.mono ?_
  rintro e a2 ⟨u1, rfl, hu1, hBa2⟩
  have hXa2 : Below W0.heap.size W0 a2 := below_step hXd hXd.size hBa2
  have HU1 := hid_of (owns_parg hu1 HPL.out)
  clear D hu1
  refine hK.out _ _ (HZ.out _ hXa2) (fun hHeld => ?_)
  clear hK K
  try simp only [zz]
  refine wpAnyH_ready (rs := [13]) (by kernel_rfl) (by simp) ?_
  refine AllReadyH.cons rfl (fun K hK => ?_) AllReadyH.nil
  simp only [z1, z2, z3]
  go_simp
  have D := refPairs_calls lo n hn x y z rb F _ (HM.out.below (HBX.out _ hXa2))
  refine D.mono ?_
  rintro e a3 ⟨u2, rfl, hu2, hBa3⟩
  have hXa3 : Below W0.heap.size W0 a3 := below_step hXa2 hXa2.size hBa3
  have HU2 := hid_of (owns_parg hu2 HPL.out)
  have HU3 := hid_of (HU1.out.below hBa3)
  clear D hu2
  refine hK.out _ _ (HZ.out _ hXa3) (fun hHeld => ?_)
  clear hK K
  try simp only [zz]
  refine wpAnyH_ready (rs := [14]) (by kernel_rfl) (by simp) ?_
  refine AllReadyH.cons rfl (fun K hK => ?_) AllReadyH.nil
  simp only [z1, z2, z3]
  go_simp
  have D := l8pairs_same u1 u2 ((prsF n F n 0).map (fun x => (((x.1 : Nat) : Int), ((x.2 : Nat) : Int)))) _ HU3.out HU2.out
  refine D.mono ?_
  rintro e a4 ⟨rfl, hBa4⟩
  have hXa4 : Below W0.heap.size W0 a4 := below_step hXa3 hXa3.size hBa4
  clear D
  refine hK.out _ _ (HZ.out _ hXa4) (fun hHeld => ?_)
  clear hK K
  try simp only [zz]
  refine tk 15 rfl ?_; simp only [zz]
  refine tk 16 rfl ?_; simp only [zz]
  refine wpAnyH_done (by kernel_rfl) ?_ _
  go_wp2_with fail
  go_ret
  exact ⟨rfl, HBX.out _ hXa4⟩
end Go.Proofs.YthiijcappjaagaaGreatDoor
namespace Go.Proofs.YthiijcappjaagaaGreatDoor
open Go.RowKit Go.Shelf Sx
theorem truths_same8 (u v : Value) (l : List Bool) (w : World) (h1 : ListR encB1 w u l) (h2 : ListR encB1 w v l) (hl : l.length ≤ 9223372036854775807) : Calls Tryz.prog 20 #[u, v] w fun r w' => r = .returned (.bool true) ∧ Below w.heap.size w w' :=
  (l8truths_calls u v l l w h1 h2 hl).mono fun e w' h => ⟨by rw [h.1]; simp, h.2⟩
def codeOps : Code → Nat → Option (Array Oper)
  | .region id ops _, n => if id = n then some ops else none
  | .seq a b, n => match codeOps a n with
    | some x => some x
    | none => codeOps b n
  | .block _ c, n => codeOps c n
  | .scope c, n => codeOps c n
  | _, _ => none
def whOps (f : Func) : Array Oper := (codeOps (f.body.getD .skip) 1).getD #[]
def falses : Nat → List Bool
  | 0 => []
  | n + 1 => false :: falses n
theorem falses_rep (n : Nat) : (falses n).toArray = Array.replicate n false := by
  rw [← List.toArray_replicate]
  congr 1
  induction n with
  | zero => rfl
  | succ n ih => rw [falses, ih, List.replicate_succ]
section
variable {P : Program} {ops : Array Oper} {Q : Exit → Act → World → Prop} {md : Region.Mode} {S : World → Prop} {oi : Oper} {v : Value} {fuel : Nat} {listed : Array Bool} {a : Act} {w : World}
theorem tkn (i : Nat) (oi : Oper) (hi : ops[i]? = some oi) (h : wpAnyH P md ops Q S fuel (listed.setIfInBounds i true) (a.put oi.dst v) w)
    (hw : Region.wanted oi (yielded ops a.tmps) = true := by kernel_rfl)
    (hv : ∀ w, S w → (execOp a.eval oi).run P w = .ok (.value v) w := by ((intro w hSw; (try dsimp only at hSw); go_simp) <;> with_reducible rfl))
    (hs : Region.noSelect ops = true := by as_aux_lemma => kernel_rfl) (hf : Region.free md ops listed i = true := by as_aux_lemma => kernel_rfl) (hr : (Region.ready md ops listed).contains i = true := by as_aux_lemma => kernel_rfl)
    (hQ : ∀ c a w, Q (.panic c) (a.put oi.dst v) w → Q (.panic c) a w := by exact fun _ _ _ h => h) (hS : S w := by assumption) : wpAnyH P md ops Q S (fuel + 1) listed a w :=
  wpAnyH_take hi hs hf hr hQ (Or.inl ⟨hw, hv⟩) hS h
theorem ready1 (i : Nat) (o : Oper) (ho : ops[i]? = some o) (h : ∀ K' : Act → World → Prop, Shut (∀ a w, S w → (S w → wpAnyH P md ops Q S fuel (listed.setIfInBounds i true) a w) → K' a w) → Oper.wp P o a w K' Q)
    (hw : Region.wanted o (yielded ops a.tmps) = true := by kernel_rfl) : AllReadyH P md ops Q S fuel listed a w [i] :=
  AllReadyH.cons ho (fun K hK => by rw [if_pos hw]; exact h K hK) AllReadyH.nil
end
theorem region_named {P : Program} {Q : Exit → Act → World → Prop} {S : World → Prop} {id n : Nat} {ops ops' : Array Oper} {a : Act} {w : World} (ho : ops = ops') (hn : ops'.size = n) (hm : P.follows .mixedOrders = true) (hS : S w.drew)
    (h : S w.drew → wpAnyH P .any ops' Q S n (falses n).toArray a w.drew) : (Code.region id ops true).wp P Q a w := by
  subst ho hn
  refine wp_region_held_drew hm hS ?_
  rw [← falses_rep]
  exact h
set_option linter.unusedSimpArgs false in
set_option linter.unusedVariables false in
set_option maxRecDepth 100000 in
set_option maxHeartbeats 16000000 in
theorem l8whole_calls (V : GrV) (g : Gr) (q : Bool) (B : Nat) (v : Nat → Value) (f : Value) (lo : Nat → Nat) (w : World) (h : GrR w V g) (hd : DerAt g B v f lo w) (hw : Wf g q) (hn : g.evs.length ≤ 256) (hT : Tab w) :
    Calls Tryz.prog 14 #[.agg (outV v f), V.val g] w fun r w' => r = .returned (.bool true) ∧ Below w.heap.size w w' := by
  obtain ⟨Ve, Vr, Vc, Vm, Va, Vd, Vt⟩ := V
  obtain ⟨p1, k1, e1g, _, _⟩ := h.ev
  obtain ⟨p2, k2, e2g, _, _⟩ := parg_form h.rf
  obtain ⟨p4, k4, e4g, _, _⟩ := parg_form h.rmw
  obtain ⟨p5, k5, e5g, _, _⟩ := parg_form h.addr
  obtain ⟨p6, k6, e6g, _, _⟩ := parg_form h.dat
  obtain ⟨p7, k7, e7g, _, _⟩ := parg_form h.ctrl
  obtain ⟨p3, k3, e3g, _, _⟩ := coarg_form h.co
  dsimp only at e1g e2g e3g e4g e5g e6g e7g
  subst e1g e2g e3g e4g e5g e6g e7g
  obtain ⟨b0, c0, L0, e0, hr0, ht0, _⟩ := ((hd.res 0 (by omega)).rel (by omega))
  obtain ⟨b1, c1, L1, e1, hr1, ht1, _⟩ := ((hd.res 1 (by omega)).rel (by omega))
  obtain ⟨b2, c2, L2, e2, hr2, ht2, _⟩ := ((hd.res 2 (by omega)).rel (by omega))
  obtain ⟨b3, c3, L3, e3, hr3, ht3, _⟩ := hd.fr
  obtain ⟨b4, c4, L4, e4, hr4, ht4, _⟩ := ((hd.res 3 (by omega)).rel (by omega))
  obtain ⟨b5, c5, L5, e5, hr5, ht5, _⟩ := ((hd.res 4 (by omega)).rel (by omega))
  obtain ⟨b6, c6, L6, e6, hr6, ht6, _⟩ := ((hd.res 5 (by omega)).rel (by omega))
  obtain ⟨b7, c7, L7, e7, hr7, ht7, _⟩ := ((hd.res 6 (by omega)).rel (by omega))
  obtain ⟨b8, c8, L8, e8, hr8, ht8, _⟩ := ((hd.res 7 (by omega)).rel (by omega))
  obtain ⟨b9, c9, L9, e9, hr9, ht9, _⟩ := ((hd.res 8 (by omega)).rel (by omega))
  have hsr := ((hd.res 9 (by omega)).tru (by omega))
  obtain ⟨gr, er, _⟩ := id hsr
  rw [kndL_length] at er
  rw [er] at hsr
  have hsw := ((hd.res 10 (by omega)).tru (by omega))
  obtain ⟨gw, ew, _⟩ := id hsw
  rw [kndL_length] at ew
  rw [ew] at hsw
  have hsf := ((hd.res 11 (by omega)).tru (by omega))
  obtain ⟨gf, ef, _⟩ := id hsf
  rw [kndL_length] at ef
  rw [ef] at hsf
  have hvf : outV v f = #[pv b0, pv b1, pv b2, pv b3, pv b4, pv b5, pv b6, pv b7, pv b8, pv b9, .slice (some ⟨gr, 0, none⟩) g.evs.length g.evs.length, .slice (some ⟨gw, 0, none⟩) g.evs.length g.evs.length, .slice (some ⟨gf, 0, none⟩) g.evs.length g.evs.length] := by unfold outV; rw [e0, e1, e2, e3, e4, e5, e6, e7, e8, e9, er, ew, ef]
  rw [hvf]
  have hf0 := (Blk.new w 36 #[pv b0, pv b1, pv b2, pv b3, pv b4, pv b5, pv b6, pv b7, pv b8, pv b9, .slice (some ⟨gr, 0, none⟩) g.evs.length g.evs.length, .slice (some ⟨gw, 0, none⟩) g.evs.length g.evs.length, .slice (some ⟨gf, 0, none⟩) g.evs.length g.evs.length]).alloc (.cells #[.int .i64 g.cells, .slice p1 g.evs.length k1, .slice p2 g.rf.length k2, .slice p3 g.co.length k3, .slice p4 g.rmw.length k4, .slice p5 g.addr.length k5, .slice p6 g.dat.length k6, .slice p7 g.ctrl.length k7] 26)
  have hg0 := Blk.new (w.alloc (.cells #[pv b0, pv b1, pv b2, pv b3, pv b4, pv b5, pv b6, pv b7, pv b8, pv b9, .slice (some ⟨gr, 0, none⟩) g.evs.length g.evs.length, .slice (some ⟨gw, 0, none⟩) g.evs.length g.evs.length, .slice (some ⟨gf, 0, none⟩) g.evs.length g.evs.length] 36)) 26 #[.int .i64 g.cells, .slice p1 g.evs.length k1, .slice p2 g.rf.length k2, .slice p3 g.co.length k3, .slice p4 g.rmw.length k4, .slice p5 g.addr.length k5, .slice p6 g.dat.length k6, .slice p7 g.ctrl.length k7]
  have hsz : (w.alloc (.cells #[pv b0, pv b1, pv b2, pv b3, pv b4, pv b5, pv b6, pv b7, pv b8, pv b9, .slice (some ⟨gr, 0, none⟩) g.evs.length g.evs.length, .slice (some ⟨gw, 0, none⟩) g.evs.length g.evs.length, .slice (some ⟨gf, 0, none⟩) g.evs.length g.evs.length] 36)).heap.size = w.heap.size + 1 := by simp
  rw [hsz] at hg0
  have hB0 : Below w.heap.size w ((w.alloc (.cells #[pv b0, pv b1, pv b2, pv b3, pv b4, pv b5, pv b6, pv b7, pv b8, pv b9, .slice (some ⟨gr, 0, none⟩) g.evs.length g.evs.length, .slice (some ⟨gw, 0, none⟩) g.evs.length g.evs.length, .slice (some ⟨gf, 0, none⟩) g.evs.length g.evs.length] 36)).alloc (.cells #[.int .i64 g.cells, .slice p1 g.evs.length k1, .slice p2 g.rf.length k2, .slice p3 g.co.length k3, .slice p4 g.rmw.length k4, .slice p5 g.addr.length k5, .slice p6 g.dat.length k6, .slice p7 g.ctrl.length k7] 26)) := ((Below.refl _ _).alloc (Nat.le_refl _) _).alloc (by simp) _
  have HR0 : Hid (∀ W, Below w.heap.size w W → IsRel W b0 c0 L0) := fun W hW => hr0.below hW
  have HT0 : Hid (TwR g.evs.length (poB g.evs) L0) := ht0
  have HR1 : Hid (∀ W, Below w.heap.size w W → IsRel W b1 c1 L1) := fun W hW => hr1.below hW
  have HT1 : Hid (TwR g.evs.length (memB g.rf) L1) := ht1
  have HR2 : Hid (∀ W, Below w.heap.size w W → IsRel W b2 c2 L2) := fun W hW => hr2.below hW
  have HT2 : Hid (TwR g.evs.length (coB g) L2) := ht2
  have HR3 : Hid (∀ W, Below w.heap.size w W → IsRel W b3 c3 L3) := fun W hW => hr3.below hW
  have HT3 : Hid (TwR g.evs.length (frB g) L3) := ht3
  have HR4 : Hid (∀ W, Below w.heap.size w W → IsRel W b4 c4 L4) := fun W hW => hr4.below hW
  have HT4 : Hid (TwR g.evs.length (memB g.rmw) L4) := ht4
  have HR5 : Hid (∀ W, Below w.heap.size w W → IsRel W b5 c5 L5) := fun W hW => hr5.below hW
  have HT5 : Hid (TwR g.evs.length (sameEv g.evs) L5) := ht5
  have HR6 : Hid (∀ W, Below w.heap.size w W → IsRel W b6 c6 L6) := fun W hW => hr6.below hW
  have HT6 : Hid (TwR g.evs.length (extB g.evs) L6) := ht6
  have HR7 : Hid (∀ W, Below w.heap.size w W → IsRel W b7 c7 L7) := fun W hW => hr7.below hW
  have HT7 : Hid (TwR g.evs.length (memB g.addr) L7) := ht7
  have HR8 : Hid (∀ W, Below w.heap.size w W → IsRel W b8 c8 L8) := fun W hW => hr8.below hW
  have HT8 : Hid (TwR g.evs.length (memB g.dat) L8) := ht8
  have HR9 : Hid (∀ W, Below w.heap.size w W → IsRel W b9 c9 L9) := fun W hW => hr9.below hW
  have HT9 : Hid (TwR g.evs.length (memB g.ctrl) L9) := ht9
  have HSr : Hid (∀ W, Below w.heap.size w W → ListR encB1 W (.slice (some ⟨gr, 0, none⟩) g.evs.length g.evs.length) (kndL g 1)) := fun W hW => (hsr.below hW).list
  have HSw : Hid (∀ W, Below w.heap.size w W → ListR encB1 W (.slice (some ⟨gw, 0, none⟩) g.evs.length g.evs.length) (kndL g 2)) := fun W hW => (hsw.below hW).list
  have HSf : Hid (∀ W, Below w.heap.size w W → ListR encB1 W (.slice (some ⟨gf, 0, none⟩) g.evs.length g.evs.length) (kndL g 3)) := fun W hW => (hsf.below hW).list
  have HV := hid_of h
  have HT := hid_of hT
  have HW := hid_of hw
  have HB0 := hid_of hB0
  have HF0 := hid_of hf0
  have HG0 := hid_of hg0
  unfold GrV.val
  dsimp only
  clear h hT hw hB0 hf0 hg0 hd hvf hsz er ew ef hsr hsw hsf e0 hr0 ht0 e1 hr1 ht1 e2 hr2 ht2 e3 hr3 ht3 e4 hr4 ht4 e5 hr5 ht5 e6 hr6 ht6 e7 hr7 ht7 e8 hr8 ht8 e9 hr9 ht9
  go_enter Tryz.func14, Tryz.ntmps14
  go_upto_region 1 with fail
  generalize (w.alloc (.cells #[pv b0, pv b1, pv b2, pv b3, pv b4, pv b5, pv b6, pv b7, pv b8, pv b9, .slice (some ⟨gr, 0, none⟩) g.evs.length g.evs.length, .slice (some ⟨gw, 0, none⟩) g.evs.length g.evs.length, .slice (some ⟨gf, 0, none⟩) g.evs.length g.evs.length] 36)).alloc (.cells #[.int .i64 g.cells, .slice p1 g.evs.length k1, .slice p2 g.rf.length k2, .slice p3 g.co.length k3, .slice p4 g.rmw.length k4, .slice p5 g.addr.length k5, .slice p6 g.dat.length k6, .slice p7 g.ctrl.length k7] 26) = W0 at *
  have HZ : Hid (∀ W, Below W0.heap.size W0 W → W.cell? ⟨w.heap.size, 0, none⟩ = some (pv b0) ∧ W.cell? ⟨w.heap.size, 1, none⟩ = some (pv b1) ∧ W.cell? ⟨w.heap.size, 2, none⟩ = some (pv b2) ∧ W.cell? ⟨w.heap.size, 3, none⟩ = some (pv b3) ∧ W.cell? ⟨w.heap.size, 4, none⟩ = some (pv b4) ∧ W.cell? ⟨w.heap.size, 5, none⟩ = some (pv b5) ∧ W.cell? ⟨w.heap.size, 6, none⟩ = some (pv b6) ∧ W.cell? ⟨w.heap.size, 7, none⟩ = some (pv b7) ∧ W.cell? ⟨w.heap.size, 8, none⟩ = some (pv b8) ∧ W.cell? ⟨w.heap.size, 9, none⟩ = some (pv b9) ∧ W.cell? ⟨w.heap.size, 10, none⟩ = some (.slice (some ⟨gr, 0, none⟩) g.evs.length g.evs.length) ∧ W.cell? ⟨w.heap.size, 11, none⟩ = some (.slice (some ⟨gw, 0, none⟩) g.evs.length g.evs.length) ∧ W.cell? ⟨w.heap.size, 12, none⟩ = some (.slice (some ⟨gf, 0, none⟩) g.evs.length g.evs.length) ∧ W.cell? ⟨w.heap.size + 1, 0, none⟩ = some (.int .i64 g.cells) ∧ W.cell? ⟨w.heap.size + 1, 1, none⟩ = some (.slice p1 g.evs.length k1) ∧ W.cell? ⟨w.heap.size + 1, 2, none⟩ = some (.slice p2 g.rf.length k2) ∧ W.cell? ⟨w.heap.size + 1, 3, none⟩ = some (.slice p3 g.co.length k3) ∧ W.cell? ⟨w.heap.size + 1, 4, none⟩ = some (.slice p4 g.rmw.length k4) ∧ W.cell? ⟨w.heap.size + 1, 5, none⟩ = some (.slice p5 g.addr.length k5) ∧ W.cell? ⟨w.heap.size + 1, 6, none⟩ = some (.slice p6 g.dat.length k6) ∧ W.cell? ⟨w.heap.size + 1, 7, none⟩ = some (.slice p7 g.ctrl.length k7)) := fun W hW => ⟨(HF0.out.of_below hW).cell rfl, (HF0.out.of_below hW).cell rfl, (HF0.out.of_below hW).cell rfl, (HF0.out.of_below hW).cell rfl, (HF0.out.of_below hW).cell rfl, (HF0.out.of_below hW).cell rfl, (HF0.out.of_below hW).cell rfl, (HF0.out.of_below hW).cell rfl, (HF0.out.of_below hW).cell rfl, (HF0.out.of_below hW).cell rfl, (HF0.out.of_below hW).cell rfl, (HF0.out.of_below hW).cell rfl, (HF0.out.of_below hW).cell rfl, (HG0.out.of_below hW).cell rfl, (HG0.out.of_below hW).cell rfl, (HG0.out.of_below hW).cell rfl, (HG0.out.of_below hW).cell rfl, (HG0.out.of_below hW).cell rfl, (HG0.out.of_below hW).cell rfl, (HG0.out.of_below hW).cell rfl, (HG0.out.of_below hW).cell rfl⟩
  have HBX : Hid (∀ W, Below W0.heap.size W0 W → Below w.heap.size w W) := fun W hW => below_step HB0.out HB0.out.size hW
  have hXa0 : Below W0.heap.size W0 W0.drew := (Below.refl _ _).drew
  refine region_named (ops' := whOps Tryz.f14) (n := 96) (S := fun W => W.cell? ⟨w.heap.size, 0, none⟩ = some (pv b0) ∧ W.cell? ⟨w.heap.size, 1, none⟩ = some (pv b1) ∧ W.cell? ⟨w.heap.size, 2, none⟩ = some (pv b2) ∧ W.cell? ⟨w.heap.size, 3, none⟩ = some (pv b3) ∧ W.cell? ⟨w.heap.size, 4, none⟩ = some (pv b4) ∧ W.cell? ⟨w.heap.size, 5, none⟩ = some (pv b5) ∧ W.cell? ⟨w.heap.size, 6, none⟩ = some (pv b6) ∧ W.cell? ⟨w.heap.size, 7, none⟩ = some (pv b7) ∧ W.cell? ⟨w.heap.size, 8, none⟩ = some (pv b8) ∧ W.cell? ⟨w.heap.size, 9, none⟩ = some (pv b9) ∧ W.cell? ⟨w.heap.size, 10, none⟩ = some (.slice (some ⟨gr, 0, none⟩) g.evs.length g.evs.length) ∧ W.cell? ⟨w.heap.size, 11, none⟩ = some (.slice (some ⟨gw, 0, none⟩) g.evs.length g.evs.length) ∧ W.cell? ⟨w.heap.size, 12, none⟩ = some (.slice (some ⟨gf, 0, none⟩) g.evs.length g.evs.length) ∧ W.cell? ⟨w.heap.size + 1, 0, none⟩ = some (.int .i64 g.cells) ∧ W.cell? ⟨w.heap.size + 1, 1, none⟩ = some (.slice p1 g.evs.length k1) ∧ W.cell? ⟨w.heap.size + 1, 2, none⟩ = some (.slice p2 g.rf.length k2) ∧ W.cell? ⟨w.heap.size + 1, 3, none⟩ = some (.slice p3 g.co.length k3) ∧ W.cell? ⟨w.heap.size + 1, 4, none⟩ = some (.slice p4 g.rmw.length k4) ∧ W.cell? ⟨w.heap.size + 1, 5, none⟩ = some (.slice p5 g.addr.length k5) ∧ W.cell? ⟨w.heap.size + 1, 6, none⟩ = some (.slice p6 g.dat.length k6) ∧ W.cell? ⟨w.heap.size + 1, 7, none⟩ = some (.slice p7 g.ctrl.length k7)) (by as_aux_lemma => kernel_rfl) (by as_aux_lemma => kernel_rfl) (by kernel_rfl) (HZ.out _ hXa0) (fun hHeld => ?_)
  simp only [falses]
  refine tkn 0 ⟨some 5, .fieldAddr 36 (.tmp 2) 0, _, _, _, _⟩ rfl ?_; simp only [zz]
  refine tkn 1 ⟨some 6, .load 33 (.tmp 5), _, _, _, _⟩ rfl ?_; simp only [zz]
  refine tkn 2 ⟨some 7, .load 26 (.tmp 3), _, _, _, _⟩ rfl ?_; simp only [zz]
  refine wpAnyH_ready (rs := [3]) (by as_aux_lemma => kernel_rfl) (by simp) ?_
  refine ready1 3 ⟨some 8, .call { callee := .value (.func 61), args := #[.tmp 7], argTypes := #[26] }, _, _, _, _⟩ rfl (fun K hK => ?_)
  go_simp
  have D := hid_of (r8Po_calls ⟨.slice p1 g.evs.length k1, .slice p2 g.rf.length k2, .slice p3 g.co.length k3, .slice p4 g.rmw.length k4, .slice p5 g.addr.length k5, .slice p6 g.dat.length k6, .slice p7 g.ctrl.length k7⟩ g _ (HV.out.below (HBX.out _ hXa0)) hn)
  unfold GrV.val at D
  dsimp only at D
  refine D.out.mono ?_
  rintro e a1 ⟨M, rb, rfl, hM, hBa⟩
  have hXa1 : Below W0.heap.size W0 a1 := below_step hXa0 hXa0.size hBa
  clear D hBa hXa0
  refine hK.out _ _ (HZ.out _ hXa1) (fun hHeld => ?_)
  clear hK K
  try simp only [zz]
  refine wpAnyH_ready (rs := [4]) (by as_aux_lemma => kernel_rfl) (by simp) ?_
  refine ready1 4 ⟨some 9, .call { callee := .value (.func 60), args := #[.tmp 6, .tmp 8], argTypes := #[33, 87] }, _, _, _, _⟩ rfl (fun K hK => ?_)
  go_simp
  have D := hid_of (l8is_calls _ (HR0.out _ (HBX.out _ hXa1)) HT0.out hn hM (fun p q hp hq => bef_po2 HW.out hp hq) (HT.out.step' (HBX.out _ hXa1)))
  refine D.out.mono ?_
  rintro e a2 ⟨rfl, hBa⟩
  have hXa2 : Below W0.heap.size W0 a2 := below_step hXa1 hXa1.size hBa
  clear D hBa hXa1
  clear hM
  refine hK.out _ _ (HZ.out _ hXa2) (fun hHeld => ?_)
  clear hK K
  try simp only [zz]
  refine tkn 5 ⟨some 10, .move (.tmp 9), _, _, _, _⟩ rfl ?_; simp only [zz]
  refine tkn 6 ⟨some 11, .fieldAddr 36 (.tmp 2) 1, _, _, _, _⟩ rfl ?_; simp only [zz]
  refine tkn 7 ⟨some 12, .load 33 (.tmp 11), _, _, _, _⟩ rfl ?_; simp only [zz]
  refine tkn 8 ⟨some 13, .load 26 (.tmp 3), _, _, _, _⟩ rfl ?_; simp only [zz]
  refine wpAnyH_ready (rs := [9]) (by as_aux_lemma => kernel_rfl) (by simp) ?_
  refine ready1 9 ⟨some 14, .call { callee := .value (.func 62), args := #[.tmp 13], argTypes := #[26] }, _, _, _, _⟩ rfl (fun K hK => ?_)
  go_simp
  have D := hid_of (r8Rf_calls ⟨.slice p1 g.evs.length k1, .slice p2 g.rf.length k2, .slice p3 g.co.length k3, .slice p4 g.rmw.length k4, .slice p5 g.addr.length k5, .slice p6 g.dat.length k6, .slice p7 g.ctrl.length k7⟩ g _ (HV.out.below (HBX.out _ hXa2)) hn)
  unfold GrV.val at D
  dsimp only at D
  refine D.out.mono ?_
  rintro e a3 ⟨M, rb, rfl, hM, hBa⟩
  have hXa3 : Below W0.heap.size W0 a3 := below_step hXa2 hXa2.size hBa
  clear D hBa hXa2
  refine hK.out _ _ (HZ.out _ hXa3) (fun hHeld => ?_)
  clear hK K
  try simp only [zz]
  refine wpAnyH_ready (rs := [10]) (by as_aux_lemma => kernel_rfl) (by simp) ?_
  refine ready1 10 ⟨some 15, .call { callee := .value (.func 60), args := #[.tmp 12, .tmp 14], argTypes := #[33, 87] }, _, _, _, _⟩ rfl (fun K hK => ?_)
  go_simp
  have D := hid_of (l8is_calls _ (HR1.out _ (HBX.out _ hXa3)) HT1.out hn hM (fun _ _ _ _ => rfl) (HT.out.step' (HBX.out _ hXa3)))
  refine D.out.mono ?_
  rintro e a4 ⟨rfl, hBa⟩
  have hXa4 : Below W0.heap.size W0 a4 := below_step hXa3 hXa3.size hBa
  clear D hBa hXa3
  clear hM
  refine hK.out _ _ (HZ.out _ hXa4) (fun hHeld => ?_)
  clear hK K
  try simp only [zz]
  refine tkn 11 ⟨some 16, .pick (.tmp 10) (.tmp 15) (.const (.bool false)), _, _, _, _⟩ rfl ?_; simp only [zz]
  refine tkn 12 ⟨some 17, .move (.tmp 16), _, _, _, _⟩ rfl ?_; simp only [zz]
  refine tkn 13 ⟨some 18, .fieldAddr 36 (.tmp 2) 2, _, _, _, _⟩ rfl ?_; simp only [zz]
  refine tkn 14 ⟨some 19, .load 33 (.tmp 18), _, _, _, _⟩ rfl ?_; simp only [zz]
  refine tkn 15 ⟨some 20, .load 26 (.tmp 3), _, _, _, _⟩ rfl ?_; simp only [zz]
  refine wpAnyH_ready (rs := [16]) (by as_aux_lemma => kernel_rfl) (by simp) ?_
  refine ready1 16 ⟨some 21, .call { callee := .value (.func 63), args := #[.tmp 20], argTypes := #[26] }, _, _, _, _⟩ rfl (fun K hK => ?_)
  go_simp
  have D := hid_of (r8Co_calls ⟨.slice p1 g.evs.length k1, .slice p2 g.rf.length k2, .slice p3 g.co.length k3, .slice p4 g.rmw.length k4, .slice p5 g.addr.length k5, .slice p6 g.dat.length k6, .slice p7 g.ctrl.length k7⟩ g q _ (HV.out.below (HBX.out _ hXa4)) hn HW.out)
  unfold GrV.val at D
  dsimp only at D
  refine D.out.mono ?_
  rintro e a5 ⟨M, rb, rfl, hM, hBa⟩
  have hXa5 : Below W0.heap.size W0 a5 := below_step hXa4 hXa4.size hBa
  clear D hBa hXa4
  refine hK.out _ _ (HZ.out _ hXa5) (fun hHeld => ?_)
  clear hK K
  try simp only [zz]
  refine wpAnyH_ready (rs := [17]) (by as_aux_lemma => kernel_rfl) (by simp) ?_
  refine ready1 17 ⟨some 22, .call { callee := .value (.func 60), args := #[.tmp 19, .tmp 21], argTypes := #[33, 87] }, _, _, _, _⟩ rfl (fun K hK => ?_)
  go_simp
  have D := hid_of (l8is_calls _ (HR2.out _ (HBX.out _ hXa5)) HT2.out hn hM (fun _ _ _ _ => rfl) (HT.out.step' (HBX.out _ hXa5)))
  refine D.out.mono ?_
  rintro e a6 ⟨rfl, hBa⟩
  have hXa6 : Below W0.heap.size W0 a6 := below_step hXa5 hXa5.size hBa
  clear D hBa hXa5
  clear hM
  refine hK.out _ _ (HZ.out _ hXa6) (fun hHeld => ?_)
  clear hK K
  try simp only [zz]
  refine tkn 18 ⟨some 23, .pick (.tmp 17) (.tmp 22) (.const (.bool false)), _, _, _, _⟩ rfl ?_; simp only [zz]
  refine tkn 19 ⟨some 24, .move (.tmp 23), _, _, _, _⟩ rfl ?_; simp only [zz]
  refine tkn 20 ⟨some 25, .fieldAddr 36 (.tmp 2) 3, _, _, _, _⟩ rfl ?_; simp only [zz]
  refine tkn 21 ⟨some 26, .load 33 (.tmp 25), _, _, _, _⟩ rfl ?_; simp only [zz]
  refine tkn 22 ⟨some 27, .load 26 (.tmp 3), _, _, _, _⟩ rfl ?_; simp only [zz]
  refine wpAnyH_ready (rs := [23]) (by as_aux_lemma => kernel_rfl) (by simp) ?_
  refine ready1 23 ⟨some 28, .call { callee := .value (.func 64), args := #[.tmp 27], argTypes := #[26] }, _, _, _, _⟩ rfl (fun K hK => ?_)
  go_simp
  have D := hid_of (r8Fr_calls ⟨.slice p1 g.evs.length k1, .slice p2 g.rf.length k2, .slice p3 g.co.length k3, .slice p4 g.rmw.length k4, .slice p5 g.addr.length k5, .slice p6 g.dat.length k6, .slice p7 g.ctrl.length k7⟩ g q _ (HV.out.below (HBX.out _ hXa6)) hn HW.out)
  unfold GrV.val at D
  dsimp only at D
  refine D.out.mono ?_
  rintro e a7 ⟨M, rb, rfl, hM, hBa⟩
  have hXa7 : Below W0.heap.size W0 a7 := below_step hXa6 hXa6.size hBa
  clear D hBa hXa6
  refine hK.out _ _ (HZ.out _ hXa7) (fun hHeld => ?_)
  clear hK K
  try simp only [zz]
  refine wpAnyH_ready (rs := [24]) (by as_aux_lemma => kernel_rfl) (by simp) ?_
  refine ready1 24 ⟨some 29, .call { callee := .value (.func 60), args := #[.tmp 26, .tmp 28], argTypes := #[33, 87] }, _, _, _, _⟩ rfl (fun K hK => ?_)
  go_simp
  have D := hid_of (l8is_calls _ (HR3.out _ (HBX.out _ hXa7)) HT3.out hn hM (fun _ _ _ _ => rfl) (HT.out.step' (HBX.out _ hXa7)))
  refine D.out.mono ?_
  rintro e a8 ⟨rfl, hBa⟩
  have hXa8 : Below W0.heap.size W0 a8 := below_step hXa7 hXa7.size hBa
  clear D hBa hXa7
  clear hM
  refine hK.out _ _ (HZ.out _ hXa8) (fun hHeld => ?_)
  clear hK K
  try simp only [zz]
  refine tkn 25 ⟨some 30, .pick (.tmp 24) (.tmp 29) (.const (.bool false)), _, _, _, _⟩ rfl ?_; simp only [zz]
  refine tkn 26 ⟨some 31, .move (.tmp 30), _, _, _, _⟩ rfl ?_; simp only [zz]
  refine tkn 27 ⟨some 32, .fieldAddr 36 (.tmp 2) 4, _, _, _, _⟩ rfl ?_; simp only [zz]
  refine tkn 28 ⟨some 33, .load 33 (.tmp 32), _, _, _, _⟩ rfl ?_; simp only [zz]
  refine tkn 29 ⟨some 34, .load 26 (.tmp 3), _, _, _, _⟩ rfl ?_; simp only [zz]
  refine wpAnyH_ready (rs := [30]) (by as_aux_lemma => kernel_rfl) (by simp) ?_
  refine ready1 30 ⟨some 35, .call { callee := .value (.func 65), args := #[.tmp 34], argTypes := #[26] }, _, _, _, _⟩ rfl (fun K hK => ?_)
  go_simp
  have D := hid_of (r8Rmw_calls ⟨.slice p1 g.evs.length k1, .slice p2 g.rf.length k2, .slice p3 g.co.length k3, .slice p4 g.rmw.length k4, .slice p5 g.addr.length k5, .slice p6 g.dat.length k6, .slice p7 g.ctrl.length k7⟩ g _ (HV.out.below (HBX.out _ hXa8)) hn)
  unfold GrV.val at D
  dsimp only at D
  refine D.out.mono ?_
  rintro e a9 ⟨M, rb, rfl, hM, hBa⟩
  have hXa9 : Below W0.heap.size W0 a9 := below_step hXa8 hXa8.size hBa
  clear D hBa hXa8
  refine hK.out _ _ (HZ.out _ hXa9) (fun hHeld => ?_)
  clear hK K
  try simp only [zz]
  refine wpAnyH_ready (rs := [31]) (by as_aux_lemma => kernel_rfl) (by simp) ?_
  refine ready1 31 ⟨some 36, .call { callee := .value (.func 60), args := #[.tmp 33, .tmp 35], argTypes := #[33, 87] }, _, _, _, _⟩ rfl (fun K hK => ?_)
  go_simp
  have D := hid_of (l8is_calls _ (HR4.out _ (HBX.out _ hXa9)) HT4.out hn hM (fun _ _ _ _ => rfl) (HT.out.step' (HBX.out _ hXa9)))
  refine D.out.mono ?_
  rintro e a10 ⟨rfl, hBa⟩
  have hXa10 : Below W0.heap.size W0 a10 := below_step hXa9 hXa9.size hBa
  clear D hBa hXa9
  clear hM
  refine hK.out _ _ (HZ.out _ hXa10) (fun hHeld => ?_)
  clear hK K
  try simp only [zz]
  refine tkn 32 ⟨some 37, .pick (.tmp 31) (.tmp 36) (.const (.bool false)), _, _, _, _⟩ rfl ?_; simp only [zz]
  refine tkn 33 ⟨some 38, .move (.tmp 37), _, _, _, _⟩ rfl ?_; simp only [zz]
  refine tkn 34 ⟨some 39, .fieldAddr 36 (.tmp 2) 5, _, _, _, _⟩ rfl ?_; simp only [zz]
  refine tkn 35 ⟨some 40, .load 33 (.tmp 39), _, _, _, _⟩ rfl ?_; simp only [zz]
  refine tkn 36 ⟨some 41, .load 26 (.tmp 3), _, _, _, _⟩ rfl ?_; simp only [zz]
  refine wpAnyH_ready (rs := [37]) (by as_aux_lemma => kernel_rfl) (by simp) ?_
  refine ready1 37 ⟨some 42, .call { callee := .value (.func 66), args := #[.tmp 41], argTypes := #[26] }, _, _, _, _⟩ rfl (fun K hK => ?_)
  go_simp
  have D := hid_of (r8Same_calls ⟨.slice p1 g.evs.length k1, .slice p2 g.rf.length k2, .slice p3 g.co.length k3, .slice p4 g.rmw.length k4, .slice p5 g.addr.length k5, .slice p6 g.dat.length k6, .slice p7 g.ctrl.length k7⟩ g _ (HV.out.below (HBX.out _ hXa10)) hn)
  unfold GrV.val at D
  dsimp only at D
  refine D.out.mono ?_
  rintro e a11 ⟨M, rb, rfl, hM, hBa⟩
  have hXa11 : Below W0.heap.size W0 a11 := below_step hXa10 hXa10.size hBa
  clear D hBa hXa10
  refine hK.out _ _ (HZ.out _ hXa11) (fun hHeld => ?_)
  clear hK K
  try simp only [zz]
  refine wpAnyH_ready (rs := [38]) (by as_aux_lemma => kernel_rfl) (by simp) ?_
  refine ready1 38 ⟨some 43, .call { callee := .value (.func 60), args := #[.tmp 40, .tmp 42], argTypes := #[33, 87] }, _, _, _, _⟩ rfl (fun K hK => ?_)
  go_simp
  have D := hid_of (l8is_calls _ (HR5.out _ (HBX.out _ hXa11)) HT5.out hn hM (fun _ _ _ _ => rfl) (HT.out.step' (HBX.out _ hXa11)))
  refine D.out.mono ?_
  rintro e a12 ⟨rfl, hBa⟩
  have hXa12 : Below W0.heap.size W0 a12 := below_step hXa11 hXa11.size hBa
  clear D hBa hXa11
  clear hM
  refine hK.out _ _ (HZ.out _ hXa12) (fun hHeld => ?_)
  clear hK K
  try simp only [zz]
  refine tkn 39 ⟨some 44, .pick (.tmp 38) (.tmp 43) (.const (.bool false)), _, _, _, _⟩ rfl ?_; simp only [zz]
  refine tkn 40 ⟨some 45, .move (.tmp 44), _, _, _, _⟩ rfl ?_; simp only [zz]
  refine tkn 41 ⟨some 46, .fieldAddr 36 (.tmp 2) 6, _, _, _, _⟩ rfl ?_; simp only [zz]
  refine tkn 42 ⟨some 47, .load 33 (.tmp 46), _, _, _, _⟩ rfl ?_; simp only [zz]
  refine tkn 43 ⟨some 48, .load 26 (.tmp 3), _, _, _, _⟩ rfl ?_; simp only [zz]
  refine wpAnyH_ready (rs := [44]) (by as_aux_lemma => kernel_rfl) (by simp) ?_
  refine ready1 44 ⟨some 49, .call { callee := .value (.func 67), args := #[.tmp 48], argTypes := #[26] }, _, _, _, _⟩ rfl (fun K hK => ?_)
  go_simp
  have D := hid_of (r8Ext_calls ⟨.slice p1 g.evs.length k1, .slice p2 g.rf.length k2, .slice p3 g.co.length k3, .slice p4 g.rmw.length k4, .slice p5 g.addr.length k5, .slice p6 g.dat.length k6, .slice p7 g.ctrl.length k7⟩ g _ (HV.out.below (HBX.out _ hXa12)) hn)
  unfold GrV.val at D
  dsimp only at D
  refine D.out.mono ?_
  rintro e a13 ⟨M, rb, rfl, hM, hBa⟩
  have hXa13 : Below W0.heap.size W0 a13 := below_step hXa12 hXa12.size hBa
  clear D hBa hXa12
  refine hK.out _ _ (HZ.out _ hXa13) (fun hHeld => ?_)
  clear hK K
  try simp only [zz]
  refine wpAnyH_ready (rs := [45]) (by as_aux_lemma => kernel_rfl) (by simp) ?_
  refine ready1 45 ⟨some 50, .call { callee := .value (.func 60), args := #[.tmp 47, .tmp 49], argTypes := #[33, 87] }, _, _, _, _⟩ rfl (fun K hK => ?_)
  go_simp
  have D := hid_of (l8is_calls _ (HR6.out _ (HBX.out _ hXa13)) HT6.out hn hM (fun _ _ _ _ => rfl) (HT.out.step' (HBX.out _ hXa13)))
  refine D.out.mono ?_
  rintro e a14 ⟨rfl, hBa⟩
  have hXa14 : Below W0.heap.size W0 a14 := below_step hXa13 hXa13.size hBa
  clear D hBa hXa13
  clear hM
  refine hK.out _ _ (HZ.out _ hXa14) (fun hHeld => ?_)
  clear hK K
  try simp only [zz]
  refine tkn 46 ⟨some 51, .pick (.tmp 45) (.tmp 50) (.const (.bool false)), _, _, _, _⟩ rfl ?_; simp only [zz]
  refine tkn 47 ⟨some 52, .move (.tmp 51), _, _, _, _⟩ rfl ?_; simp only [zz]
  refine tkn 48 ⟨some 53, .fieldAddr 36 (.tmp 2) 7, _, _, _, _⟩ rfl ?_; simp only [zz]
  refine tkn 49 ⟨some 54, .load 33 (.tmp 53), _, _, _, _⟩ rfl ?_; simp only [zz]
  refine tkn 50 ⟨some 55, .load 26 (.tmp 3), _, _, _, _⟩ rfl ?_; simp only [zz]
  refine tkn 51 ⟨some 56, .fieldAddr 26 (.tmp 3) 5, _, _, _, _⟩ rfl ?_; simp only [zz]
  refine tkn 52 ⟨some 57, .load 23 (.tmp 56), _, _, _, _⟩ rfl ?_; simp only [zz]
  refine wpAnyH_ready (rs := [53]) (by as_aux_lemma => kernel_rfl) (by simp) ?_
  refine ready1 53 ⟨some 58, .call { callee := .value (.func 68), args := #[.tmp 55, .tmp 57], argTypes := #[26, 23] }, _, _, _, _⟩ rfl (fun K hK => ?_)
  go_simp
  have D := hid_of (r8Of_calls ⟨.slice p1 g.evs.length k1, .slice p2 g.rf.length k2, .slice p3 g.co.length k3, .slice p4 g.rmw.length k4, .slice p5 g.addr.length k5, .slice p6 g.dat.length k6, .slice p7 g.ctrl.length k7⟩ g _ g.addr _ (HV.out.below (HBX.out _ hXa14)) (HV.out.below (HBX.out _ hXa14)).addr hn)
  unfold GrV.val at D
  dsimp only at D
  refine D.out.mono ?_
  rintro e a15 ⟨M, rb, rfl, hM, hBa⟩
  have hXa15 : Below W0.heap.size W0 a15 := below_step hXa14 hXa14.size hBa
  clear D hBa hXa14
  refine hK.out _ _ (HZ.out _ hXa15) (fun hHeld => ?_)
  clear hK K
  try simp only [zz]
  refine wpAnyH_ready (rs := [54]) (by as_aux_lemma => kernel_rfl) (by simp) ?_
  refine ready1 54 ⟨some 59, .call { callee := .value (.func 60), args := #[.tmp 54, .tmp 58], argTypes := #[33, 87] }, _, _, _, _⟩ rfl (fun K hK => ?_)
  go_simp
  have D := hid_of (l8is_calls _ (HR7.out _ (HBX.out _ hXa15)) HT7.out hn hM (fun _ _ _ _ => rfl) (HT.out.step' (HBX.out _ hXa15)))
  refine D.out.mono ?_
  rintro e a16 ⟨rfl, hBa⟩
  have hXa16 : Below W0.heap.size W0 a16 := below_step hXa15 hXa15.size hBa
  clear D hBa hXa15
  clear hM
  refine hK.out _ _ (HZ.out _ hXa16) (fun hHeld => ?_)
  clear hK K
  try simp only [zz]
  refine tkn 55 ⟨some 60, .pick (.tmp 52) (.tmp 59) (.const (.bool false)), _, _, _, _⟩ rfl ?_; simp only [zz]
  refine tkn 56 ⟨some 61, .move (.tmp 60), _, _, _, _⟩ rfl ?_; simp only [zz]
  refine tkn 57 ⟨some 62, .fieldAddr 36 (.tmp 2) 8, _, _, _, _⟩ rfl ?_; simp only [zz]
  refine tkn 58 ⟨some 63, .load 33 (.tmp 62), _, _, _, _⟩ rfl ?_; simp only [zz]
  refine tkn 59 ⟨some 64, .load 26 (.tmp 3), _, _, _, _⟩ rfl ?_; simp only [zz]
  refine tkn 60 ⟨some 65, .fieldAddr 26 (.tmp 3) 6, _, _, _, _⟩ rfl ?_; simp only [zz]
  refine tkn 61 ⟨some 66, .load 23 (.tmp 65), _, _, _, _⟩ rfl ?_; simp only [zz]
  refine wpAnyH_ready (rs := [62]) (by as_aux_lemma => kernel_rfl) (by simp) ?_
  refine ready1 62 ⟨some 67, .call { callee := .value (.func 68), args := #[.tmp 64, .tmp 66], argTypes := #[26, 23] }, _, _, _, _⟩ rfl (fun K hK => ?_)
  go_simp
  have D := hid_of (r8Of_calls ⟨.slice p1 g.evs.length k1, .slice p2 g.rf.length k2, .slice p3 g.co.length k3, .slice p4 g.rmw.length k4, .slice p5 g.addr.length k5, .slice p6 g.dat.length k6, .slice p7 g.ctrl.length k7⟩ g _ g.dat _ (HV.out.below (HBX.out _ hXa16)) (HV.out.below (HBX.out _ hXa16)).dat hn)
  unfold GrV.val at D
  dsimp only at D
  refine D.out.mono ?_
  rintro e a17 ⟨M, rb, rfl, hM, hBa⟩
  have hXa17 : Below W0.heap.size W0 a17 := below_step hXa16 hXa16.size hBa
  clear D hBa hXa16
  refine hK.out _ _ (HZ.out _ hXa17) (fun hHeld => ?_)
  clear hK K
  try simp only [zz]
  refine wpAnyH_ready (rs := [63]) (by as_aux_lemma => kernel_rfl) (by simp) ?_
  refine ready1 63 ⟨some 68, .call { callee := .value (.func 60), args := #[.tmp 63, .tmp 67], argTypes := #[33, 87] }, _, _, _, _⟩ rfl (fun K hK => ?_)
  go_simp
  have D := hid_of (l8is_calls _ (HR8.out _ (HBX.out _ hXa17)) HT8.out hn hM (fun _ _ _ _ => rfl) (HT.out.step' (HBX.out _ hXa17)))
  refine D.out.mono ?_
  rintro e a18 ⟨rfl, hBa⟩
  have hXa18 : Below W0.heap.size W0 a18 := below_step hXa17 hXa17.size hBa
  clear D hBa hXa17
  clear hM
  refine hK.out _ _ (HZ.out _ hXa18) (fun hHeld => ?_)
  clear hK K
  try simp only [zz]
  refine tkn 64 ⟨some 69, .pick (.tmp 61) (.tmp 68) (.const (.bool false)), _, _, _, _⟩ rfl ?_; simp only [zz]
  refine tkn 65 ⟨some 70, .move (.tmp 69), _, _, _, _⟩ rfl ?_; simp only [zz]
  refine tkn 66 ⟨some 71, .fieldAddr 36 (.tmp 2) 9, _, _, _, _⟩ rfl ?_; simp only [zz]
  refine tkn 67 ⟨some 72, .load 33 (.tmp 71), _, _, _, _⟩ rfl ?_; simp only [zz]
  refine tkn 68 ⟨some 73, .load 26 (.tmp 3), _, _, _, _⟩ rfl ?_; simp only [zz]
  refine tkn 69 ⟨some 74, .fieldAddr 26 (.tmp 3) 7, _, _, _, _⟩ rfl ?_; simp only [zz]
  refine tkn 70 ⟨some 75, .load 23 (.tmp 74), _, _, _, _⟩ rfl ?_; simp only [zz]
  refine wpAnyH_ready (rs := [71]) (by as_aux_lemma => kernel_rfl) (by simp) ?_
  refine ready1 71 ⟨some 76, .call { callee := .value (.func 68), args := #[.tmp 73, .tmp 75], argTypes := #[26, 23] }, _, _, _, _⟩ rfl (fun K hK => ?_)
  go_simp
  have D := hid_of (r8Of_calls ⟨.slice p1 g.evs.length k1, .slice p2 g.rf.length k2, .slice p3 g.co.length k3, .slice p4 g.rmw.length k4, .slice p5 g.addr.length k5, .slice p6 g.dat.length k6, .slice p7 g.ctrl.length k7⟩ g _ g.ctrl _ (HV.out.below (HBX.out _ hXa18)) (HV.out.below (HBX.out _ hXa18)).ctrl hn)
  unfold GrV.val at D
  dsimp only at D
  refine D.out.mono ?_
  rintro e a19 ⟨M, rb, rfl, hM, hBa⟩
  have hXa19 : Below W0.heap.size W0 a19 := below_step hXa18 hXa18.size hBa
  clear D hBa hXa18
  refine hK.out _ _ (HZ.out _ hXa19) (fun hHeld => ?_)
  clear hK K
  try simp only [zz]
  refine wpAnyH_ready (rs := [72]) (by as_aux_lemma => kernel_rfl) (by simp) ?_
  refine ready1 72 ⟨some 77, .call { callee := .value (.func 60), args := #[.tmp 72, .tmp 76], argTypes := #[33, 87] }, _, _, _, _⟩ rfl (fun K hK => ?_)
  go_simp
  have D := hid_of (l8is_calls _ (HR9.out _ (HBX.out _ hXa19)) HT9.out hn hM (fun _ _ _ _ => rfl) (HT.out.step' (HBX.out _ hXa19)))
  refine D.out.mono ?_
  rintro e a20 ⟨rfl, hBa⟩
  have hXa20 : Below W0.heap.size W0 a20 := below_step hXa19 hXa19.size hBa
  clear D hBa hXa19
  clear hM
  refine hK.out _ _ (HZ.out _ hXa20) (fun hHeld => ?_)
  clear hK K
  try simp only [zz]
  refine tkn 73 ⟨some 78, .pick (.tmp 70) (.tmp 77) (.const (.bool false)), _, _, _, _⟩ rfl ?_; simp only [zz]
  refine tkn 74 ⟨some 79, .move (.tmp 78), _, _, _, _⟩ rfl ?_; simp only [zz]
  refine tkn 75 ⟨some 80, .fieldAddr 36 (.tmp 2) 10, _, _, _, _⟩ rfl ?_; simp only [zz]
  refine tkn 76 ⟨some 81, .load 34 (.tmp 80), _, _, _, _⟩ rfl ?_; simp only [zz]
  refine tkn 77 ⟨some 82, .load 26 (.tmp 3), _, _, _, _⟩ rfl ?_; simp only [zz]
  refine wpAnyH_ready (rs := [78]) (by as_aux_lemma => kernel_rfl) (by simp) ?_
  refine ready1 78 ⟨some 83, .call { callee := .value (.func 69), args := #[.tmp 82, .const (.int .i64 1)], argTypes := #[26, 3] }, _, _, _, _⟩ rfl (fun K hK => ?_)
  go_simp
  have D := hid_of (r8Kinds_calls ⟨.slice p1 g.evs.length k1, .slice p2 g.rf.length k2, .slice p3 g.co.length k3, .slice p4 g.rmw.length k4, .slice p5 g.addr.length k5, .slice p6 g.dat.length k6, .slice p7 g.ctrl.length k7⟩ g 1 _ (HV.out.below (HBX.out _ hXa20)))
  unfold GrV.val at D
  dsimp only at D
  refine D.out.mono ?_
  rintro e a21 ⟨u, rfl, hO, hBa⟩
  have hXa21 : Below W0.heap.size W0 a21 := below_step hXa20 hXa20.size hBa
  clear D hBa hXa20
  refine hK.out _ _ (HZ.out _ hXa21) (fun hHeld => ?_)
  clear hK K
  try simp only [zz]
  refine wpAnyH_ready (rs := [79]) (by as_aux_lemma => kernel_rfl) (by simp) ?_
  refine ready1 79 ⟨some 84, .call { callee := .value (.func 20), args := #[.tmp 81, .tmp 83], argTypes := #[34, 34] }, _, _, _, _⟩ rfl (fun K hK => ?_)
  go_simp
  have D := hid_of (truths_same8 (.slice (some ⟨gr, 0, none⟩) g.evs.length g.evs.length) u (kndL g 1) _ (HSr.out _ (HBX.out _ hXa21)) (owns_list (l := truL (fun e => e.k == 1) g.evs) hO) (by rw [kndL_length]; omega))
  refine D.out.mono ?_
  rintro e a22 ⟨rfl, hBa⟩
  have hXa22 : Below W0.heap.size W0 a22 := below_step hXa21 hXa21.size hBa
  clear D hBa hXa21
  clear hO
  refine hK.out _ _ (HZ.out _ hXa22) (fun hHeld => ?_)
  clear hK K
  try simp only [zz]
  refine tkn 80 ⟨some 85, .pick (.tmp 79) (.tmp 84) (.const (.bool false)), _, _, _, _⟩ rfl ?_; simp only [zz]
  refine tkn 81 ⟨some 86, .move (.tmp 85), _, _, _, _⟩ rfl ?_; simp only [zz]
  refine tkn 82 ⟨some 87, .fieldAddr 36 (.tmp 2) 11, _, _, _, _⟩ rfl ?_; simp only [zz]
  refine tkn 83 ⟨some 88, .load 34 (.tmp 87), _, _, _, _⟩ rfl ?_; simp only [zz]
  refine tkn 84 ⟨some 89, .load 26 (.tmp 3), _, _, _, _⟩ rfl ?_; simp only [zz]
  refine wpAnyH_ready (rs := [85]) (by as_aux_lemma => kernel_rfl) (by simp) ?_
  refine ready1 85 ⟨some 90, .call { callee := .value (.func 69), args := #[.tmp 89, .const (.int .i64 2)], argTypes := #[26, 3] }, _, _, _, _⟩ rfl (fun K hK => ?_)
  go_simp
  have D := hid_of (r8Kinds_calls ⟨.slice p1 g.evs.length k1, .slice p2 g.rf.length k2, .slice p3 g.co.length k3, .slice p4 g.rmw.length k4, .slice p5 g.addr.length k5, .slice p6 g.dat.length k6, .slice p7 g.ctrl.length k7⟩ g 2 _ (HV.out.below (HBX.out _ hXa22)))
  unfold GrV.val at D
  dsimp only at D
  refine D.out.mono ?_
  rintro e a23 ⟨u, rfl, hO, hBa⟩
  have hXa23 : Below W0.heap.size W0 a23 := below_step hXa22 hXa22.size hBa
  clear D hBa hXa22
  refine hK.out _ _ (HZ.out _ hXa23) (fun hHeld => ?_)
  clear hK K
  try simp only [zz]
  refine wpAnyH_ready (rs := [86]) (by as_aux_lemma => kernel_rfl) (by simp) ?_
  refine ready1 86 ⟨some 91, .call { callee := .value (.func 20), args := #[.tmp 88, .tmp 90], argTypes := #[34, 34] }, _, _, _, _⟩ rfl (fun K hK => ?_)
  go_simp
  have D := hid_of (truths_same8 (.slice (some ⟨gw, 0, none⟩) g.evs.length g.evs.length) u (kndL g 2) _ (HSw.out _ (HBX.out _ hXa23)) (owns_list (l := truL (fun e => e.k == 2) g.evs) hO) (by rw [kndL_length]; omega))
  refine D.out.mono ?_
  rintro e a24 ⟨rfl, hBa⟩
  have hXa24 : Below W0.heap.size W0 a24 := below_step hXa23 hXa23.size hBa
  clear D hBa hXa23
  clear hO
  refine hK.out _ _ (HZ.out _ hXa24) (fun hHeld => ?_)
  clear hK K
  try simp only [zz]
  refine tkn 87 ⟨some 92, .pick (.tmp 86) (.tmp 91) (.const (.bool false)), _, _, _, _⟩ rfl ?_; simp only [zz]
  refine tkn 88 ⟨some 93, .move (.tmp 92), _, _, _, _⟩ rfl ?_; simp only [zz]
  refine tkn 89 ⟨some 94, .fieldAddr 36 (.tmp 2) 12, _, _, _, _⟩ rfl ?_; simp only [zz]
  refine tkn 90 ⟨some 95, .load 34 (.tmp 94), _, _, _, _⟩ rfl ?_; simp only [zz]
  refine tkn 91 ⟨some 96, .load 26 (.tmp 3), _, _, _, _⟩ rfl ?_; simp only [zz]
  refine wpAnyH_ready (rs := [92]) (by as_aux_lemma => kernel_rfl) (by simp) ?_
  refine ready1 92 ⟨some 97, .call { callee := .value (.func 69), args := #[.tmp 96, .const (.int .i64 3)], argTypes := #[26, 3] }, _, _, _, _⟩ rfl (fun K hK => ?_)
  go_simp
  have D := hid_of (r8Kinds_calls ⟨.slice p1 g.evs.length k1, .slice p2 g.rf.length k2, .slice p3 g.co.length k3, .slice p4 g.rmw.length k4, .slice p5 g.addr.length k5, .slice p6 g.dat.length k6, .slice p7 g.ctrl.length k7⟩ g 3 _ (HV.out.below (HBX.out _ hXa24)))
  unfold GrV.val at D
  dsimp only at D
  refine D.out.mono ?_
  rintro e a25 ⟨u, rfl, hO, hBa⟩
  have hXa25 : Below W0.heap.size W0 a25 := below_step hXa24 hXa24.size hBa
  clear D hBa hXa24
  refine hK.out _ _ (HZ.out _ hXa25) (fun hHeld => ?_)
  clear hK K
  try simp only [zz]
  refine wpAnyH_ready (rs := [93]) (by as_aux_lemma => kernel_rfl) (by simp) ?_
  refine ready1 93 ⟨some 98, .call { callee := .value (.func 20), args := #[.tmp 95, .tmp 97], argTypes := #[34, 34] }, _, _, _, _⟩ rfl (fun K hK => ?_)
  go_simp
  have D := hid_of (truths_same8 (.slice (some ⟨gf, 0, none⟩) g.evs.length g.evs.length) u (kndL g 3) _ (HSf.out _ (HBX.out _ hXa25)) (owns_list (l := truL (fun e => e.k == 3) g.evs) hO) (by rw [kndL_length]; omega))
  refine D.out.mono ?_
  rintro e a26 ⟨rfl, hBa⟩
  have hXa26 : Below W0.heap.size W0 a26 := below_step hXa25 hXa25.size hBa
  clear D hBa hXa25
  clear hO
  refine hK.out _ _ (HZ.out _ hXa26) (fun hHeld => ?_)
  clear hK K
  try simp only [zz]
  refine wpAnyH_ready (rs := [94]) (by as_aux_lemma => kernel_rfl) (by simp) ?_
  refine ready1 94 ⟨some 99, .pick (.tmp 93) (.tmp 98) (.const (.bool false)), _, _, _, _⟩ rfl (fun K hK => ?_)
  go_simp
  refine hK.out _ _ (HZ.out _ hXa26) (fun hHeld => ?_)
  clear hK K
  try simp only [zz]
  refine wpAnyH_ready (rs := [95]) (by as_aux_lemma => kernel_rfl) (by simp) ?_
  refine ready1 95 ⟨some 4, .assign (.tmp 99), _, _, _, _⟩ rfl (fun K hK => ?_)
  go_simp
  refine hK.out _ _ (HZ.out _ hXa26) (fun hHeld => ?_)
  clear hK K
  try simp only [zz]
  refine wpAnyH_done (by kernel_rfl) ?_ _
  go_wp2_with fail
  go_ret
  exact ⟨rfl, HBX.out _ hXa26⟩
end Go.Proofs.YthiijcappjaagaaGreatDoor
namespace Go.Proofs.YthiijcappjaagaaGreatDoor
open Go.RowKit Go.Shelf Sx
theorem numK_len_lt {P : Ev → Bool} {l : List Ev} : ∀ {n r : Nat}, r < n → P (l.getD r Ev.zero) = true → (numK P l n)[(numK P l r).length]? = some r
  | 0, r, h, _ => by omega
  | n + 1, r, h, hp => by
    have hs : numK P l (n + 1) = numK P l n ++ (if P (l.getD n Ev.zero) then [n] else []) := by
      unfold numK
      rw [List.range_succ, List.filter_append, List.filter_cons, List.filter_nil]
    rw [hs]
    by_cases e : r = n
    · subst e
      rw [if_pos hp, List.getElem?_append_right (Nat.le_refl _), Nat.sub_self]
      rfl
    · have ih := numK_len_lt (P := P) (l := l) (n := n) (r := r) (by omega) hp
      rw [List.getElem?_append_left (List.getElem?_eq_some_iff.1 ih).1]
      exact ih
def rdP : Ev → Bool := fun e => e.k == 1
theorem numK_yes' {l : List Ev} {r : Nat} (h : (l.getD r Ev.zero).k = 1) : (numK rdP l (r + 1)).length = (numK rdP l r).length + 1 := by
  unfold numK
  have : rdP (l.getD r Ev.zero) = true := by unfold rdP; rw [h]; rfl
  rw [List.range_succ, List.filter_append, List.filter_cons, List.filter_nil, if_pos this, List.length_append]
  rfl
theorem numK_no' {l : List Ev} {r : Nat} (h : (l.getD r Ev.zero).k ≠ 1) : numK rdP l (r + 1) = numK rdP l r := by
  unfold numK
  have : rdP (l.getD r Ev.zero) = false := by unfold rdP; rw [beq_eq_false_iff_ne]; exact h
  rw [List.range_succ, List.filter_append, List.filter_cons, List.filter_nil, if_neg (by rw [this]; simp), List.append_nil]
def ok4 (g : Gr) (i : Nat) : Bool := ok4a g i (g.rf.getD i (0, 0)) && ok4b g (g.rf.getD i (0, 0))
theorem bad4_hit {g : Gr} {k : Nat} (hk : k < g.rf.length) (h : ∀ j, j < k → ok4 g j = true) (hn : ok4 g k = false) : bad4 g = (k : Int) := by
  have : fstBad (fun i => !(ok4a g i (g.rf.getD i (0, 0)) && ok4b g (g.rf.getD i (0, 0)))) 0 g.rf.length = (k : Int) := fstBad_hit (Nat.zero_le _) (by omega) (fun j _ hj => by have := h j hj; unfold ok4 at this; rw [this]; rfl) (by unfold ok4 at hn; rw [hn]; rfl)
  unfold bad4
  rw [this, if_neg (by omega)]
theorem bad4_all {g : Gr} (h : ∀ j, j < g.rf.length → ok4 g j = true) : bad4 g = (if g.rf.length < g.reads.length then (g.rf.length : Int) else -1) := by
  have : fstBad (fun i => !(ok4a g i (g.rf.getD i (0, 0)) && ok4b g (g.rf.getD i (0, 0)))) 0 g.rf.length = -1 := fstBad_none (fun j _ hj => by have := h j (by omega); unfold ok4 at this; rw [this]; rfl)
  unfold bad4
  rw [this, if_pos rfl]
set_option linter.unusedSimpArgs false in
set_option maxRecDepth 100000 in
set_option maxHeartbeats 16000000 in
theorem r8rf_calls (V : GrV) (g : Gr) (w : World) (h : GrR w V g) (hl256 : g.evs.length ≤ 256) : Calls Tryz.prog 42 #[V.val g] w fun r w' => r = .returned (.int .i64 (bad4 g)) ∧ Below w.heap.size w w' := by
  obtain ⟨Ve, Vr, Vc, Vm, Va, Vd, Vt⟩ := V
  obtain ⟨pe, ce, ee, hp, _⟩ := h.ev
  obtain ⟨pr, cr, er, hpr, hrl⟩ := parg_form h.rf
  dsimp only at ee er
  subst ee
  subst er
  have HP := hid_of hp
  have HPR := hid_of hpr
  have H := hid_of h
  generalize hr : bad4 g = res
  have HR := hid_of hr
  have hB : Below w.heap.size w (w.alloc (.cells #[.int .i64 g.cells, .slice pe g.evs.length ce, .slice pr g.rf.length cr, Vc, Vm, Va, Vd, Vt] 26)) := (Below.refl _ _).alloc (Nat.le_refl _) _
  have hb := Blk.new w 26 #[.int .i64 g.cells, .slice pe g.evs.length ce, .slice pr g.rf.length cr, Vc, Vm, Va, Vd, Vt]
  have hrl' : Hid (g.reads = numK rdP g.evs g.evs.length) := rfl
  unfold GrV.val
  dsimp only
  clear hr hp h hpr
  go_enter Tryz.func42, Tryz.ntmps42
  go_wp2_with fail
  have HB := hid_of hB
  have HG := hid_of hb
  generalize w.alloc (.cells #[.int .i64 g.cells, .slice pe g.evs.length ce, .slice pr g.rf.length cr, Vc, Vm, Va, Vd, Vt] 26) = W0 at *
  have hgb0 : Hid (w.heap.size ≤ w.heap.size) := Nat.le_refl _
  clear hb hB
  go_loopg [3, 4] g.evs.length (fun f v3 v4 wr => ∃ rr kk : Nat, v4 = .int .i64 ((rr : Nat) : Int) ∧ v3 = .int .i64 ((kk : Nat) : Int) ∧ rr ≤ g.evs.length ∧ kk ≤ g.rf.length ∧ Hid (rr + f = g.evs.length) ∧ Hid (kk = (numK rdP g.evs rr).length) ∧ Hid (∀ j, j < kk → ok4 g j = true) ∧ Hid (Below W0.heap.size W0 wr))
  case atStart => exact ⟨0, 0, rfl, rfl, Nat.zero_le _, Nat.zero_le _, Nat.zero_add _, rfl, (fun j h => by omega), Below.refl _ _⟩
  case round =>
    obtain ⟨rr, kk, rfl, rfl, hr0, hk0, HKF, HKK, HALL, HW⟩ := hrel
    have HBW : Hid (Below w.heap.size w wr) := below_step HB.out HB.out.size HW.out
    have hG := HG.out.of_below HW.out
    have c1 : wr.cell? ⟨w.heap.size, 1, none⟩ = some (.slice pe g.evs.length ce) := hG.cell rfl
    have c2 : wr.cell? ⟨w.heap.size, 2, none⟩ = some (.slice pr g.rf.length cr) := hG.cell rfl
    clear hG
    have R0 : (0 : Int) ≤ ((rr : Nat) : Int) := by omega
    by_cases hlt : rr < g.evs.length
    · have R1 : ((rr : Nat) : Int) < ((g.evs.length : Nat) : Int) := by omega
      obtain ⟨s, o, rfl, hat⟩ := HP.out (by omega)
      have HAT := hid_of (hat.below HBW.out)
      have x1 := HAT.out.c1 rr _ (Gr.ev_at hlt)
      clear hat
      by_cases hk : (g.ev rr).k = 1
      · have q1 : (((g.ev rr).k : Int) != 1) = false := by simp [hk]
        have hrd : (numK rdP g.evs g.evs.length)[kk]? = some rr := by rw [HKK.out]; exact numK_len_lt hlt (by show ((g.ev rr).k == 1) = true; rw [hk]; rfl)
        have HRD : Hid (kk < g.reads.length ∧ g.reads.getD kk 0 = rr) := by
          rw [Hid, hrl'.out]
          exact ⟨(List.getElem?_eq_some_iff.1 hrd).1, by rw [List.getD_eq_getElem?_getD, hrd]; rfl⟩
        have HSUC : Hid (kk + 1 = (numK rdP g.evs (rr + 1)).length) := by rw [Hid, numK_yes' hk, HKK.out]
        clear hrd hk
        by_cases hkl : kk < g.rf.length
        · have d1 : ¬ (((g.rf.length : Nat) : Int) ≤ ((kk : Nat) : Int)) := by omega
          obtain ⟨s2, o2, rfl, hat2⟩ := HPR.out (by omega)
          obtain ⟨⟨pa, pb⟩, hx⟩ : ∃ x, g.rf[kk]? = some x := ⟨_, List.getElem?_eq_getElem hkl⟩
          have y0 := (hat2.below HBW.out).fst kk _ hx
          have y1 := (hat2.below HBW.out).snd kk _ hx
          dsimp only at y0 y1
          have K0 : (0 : Int) ≤ ((kk : Nat) : Int) := by omega
          have K1 : ((kk : Nat) : Int) < ((g.rf.length : Nat) : Int) := by omega
          have hgd : g.rf.getD kk (0, 0) = (pa, pb) := by rw [List.getD_eq_getElem?_getD, hx]; rfl
          have HBAD : Hid (ok4 g kk = false → res = ((kk : Nat) : Int)) := fun h => by rw [← HR.out]; exact bad4_hit hkl HALL.out h
          have HNX : Hid (ok4 g kk = true → ∀ j, j < kk + 1 → ok4 g j = true) := fun h j hj => by
            by_cases e : j = kk
            · rw [e]; exact h
            · exact HALL.out j (by omega)
          have HO4 : Hid (ok4 g kk = (decide (pb = ((rr : Nat) : Int)) && isB g.evs pa [2] && (decide ((g.ev pa.toNat).l = (g.ev pb.toNat).l) && decide ((g.ev pa.toNat).v = (g.ev pb.toNat).v)))) := by
            rw [Hid]
            unfold ok4 ok4a ok4b
            rw [hgd, HRD.out.2, decide_eq_true HRD.out.1, Bool.true_and]
          clear hx hgd hat2 HRD
          go_upto_region 9 with fail
          have hgp := Blk.new wr 77 #[.int .i64 pa, .int .i64 pb]
          have hBp : Below wr.heap.size wr (wr.alloc (.cells #[.int .i64 pa, .int .i64 pb] 77)) := (Below.refl _ _).alloc (Nat.le_refl _) _
          have HGb := hid_of ((HG.out.of_below HW.out).alloc (.cells #[.int .i64 pa, .int .i64 pb] 77))
          have HAb := hid_of (HAT.out.below hBp)
          have HBb : Hid (Below w.heap.size w (wr.alloc (.cells #[.int .i64 pa, .int .i64 pb] 77))) := below_step HBW.out HBW.out.size hBp
          have HWb : Hid (Below W0.heap.size W0 (wr.alloc (.cells #[.int .i64 pa, .int .i64 pb] 77))) := below_step HW.out HW.out.size hBp
          have HGP := hid_of hgp
          clear hgp hBp y0 y1 x1 c1 c2
          generalize wr.alloc (.cells #[.int .i64 pa, .int .i64 pb] 77) = wb at *
          generalize wr.heap.size = gp at *
          have HC0 := hid_of (r8is_calls _ g pa 2 wb.drew (H.out.below HBb.out.drew))
          unfold GrV.val at HC0
          dsimp only at HC0
          generalize hgbn : w.heap.size = gb at *
          have HZ : Hid (∀ W, Below wb.heap.size wb W → W.cell? ⟨gb, 0, none⟩ = some (.int .i64 g.cells) ∧ W.cell? ⟨gb, 1, none⟩ = some (.slice (some ⟨s, o, none⟩) g.evs.length ce) ∧ W.cell? ⟨gb, 2, none⟩ = some (.slice (some ⟨s2, o2, none⟩) g.rf.length cr) ∧ W.cell? ⟨gb, 3, none⟩ = some (Vc) ∧ W.cell? ⟨gb, 4, none⟩ = some (Vm) ∧ W.cell? ⟨gb, 5, none⟩ = some (Va) ∧ W.cell? ⟨gb, 6, none⟩ = some (Vd) ∧ W.cell? ⟨gb, 7, none⟩ = some (Vt) ∧ W.cell? ⟨gp, 0, none⟩ = some (.int .i64 pa) ∧ W.cell? ⟨gp, 1, none⟩ = some (.int .i64 pb)) := fun W hW => ⟨(HGb.out.of_below hW).cell rfl, (HGb.out.of_below hW).cell rfl, (HGb.out.of_below hW).cell rfl, (HGb.out.of_below hW).cell rfl, (HGb.out.of_below hW).cell rfl, (HGb.out.of_below hW).cell rfl, (HGb.out.of_below hW).cell rfl, (HGb.out.of_below hW).cell rfl, (HGP.out.of_below hW).cell rfl, (HGP.out.of_below hW).cell rfl⟩
          go_cut [73] (fun v73 wx => v73 = .bool (!(ok4 g kk)) ∧ Hid (Below wb.heap.size wb wx))
          case rest =>
            obtain ⟨rfl, HX⟩ := hcut
            generalize hwz : wc = wz at *
            clear hwz
            have HXW : Hid (Below gb w wz) := HBb.out.trans (HX.out.mono (by rw [← hgbn]; exact HBb.out.size))
            cases hok : ok4 g kk
            · obtain rfl := HBAD.out hok
              clear hok
              go_wp2_with fail
              go_ret
              exact ⟨rfl, HXW.out⟩
            · have HNX2 := hid_of (HNX.out hok)
              clear hok
              go_wp2_with fail
              go_roundg (g.evs.length - (rr + 1))
              case measure => have := HKF.out; omega
              case rel => exact ⟨rr + 1, kk + 1, by go_num, by go_num, by omega, by omega, by have := HKF.out; rw [Hid]; omega, HSUC.out, HNX2.out, HWb.out.trans (HX.out.mono HWb.out.size)⟩
          case first =>
          by_cases hpb : pb = ((rr : Nat) : Int)
          · have q2 : ((pb : Int) != ((rr : Nat) : Int)) = false := by simp [hpb]
            cases his : isB g.evs pa [2]
            · rw [his] at HC0
              have HC := HC0
              have HO : Hid (ok4 g kk = false) := by rw [Hid, HO4.out, his]; simp
              clear HC0 his hpb
              refine wp_region_held_drew (S := (fun w' => w'.cell? ⟨gb, 0, none⟩ = some (.int .i64 g.cells) ∧ w'.cell? ⟨gb, 1, none⟩ = some (.slice (some ⟨s, o, none⟩) g.evs.length ce) ∧ w'.cell? ⟨gb, 2, none⟩ = some (.slice (some ⟨s2, o2, none⟩) g.rf.length cr) ∧ w'.cell? ⟨gb, 3, none⟩ = some (Vc) ∧ w'.cell? ⟨gb, 4, none⟩ = some (Vm) ∧ w'.cell? ⟨gb, 5, none⟩ = some (Va) ∧ w'.cell? ⟨gb, 6, none⟩ = some (Vd) ∧ w'.cell? ⟨gb, 7, none⟩ = some (Vt) ∧ w'.cell? ⟨gp, 0, none⟩ = some (.int .i64 pa) ∧ w'.cell? ⟨gp, 1, none⟩ = some (.int .i64 pb))) (by kernel_rfl) (HZ.out _ (Below.refl _ _).drew) (fun hHeld => ?_)
              refine tk 0 rfl ?_; simp only [zz]
              refine tk 1 rfl ?_; simp only [zz]
              refine tk 2 rfl ?_; simp only [zz]
              refine tk 3 rfl ?_; simp only [zz]
              refine tk 4 rfl ?_; simp only [zz]
              refine tk 5 rfl ?_; simp only [zz]
              refine tk 6 rfl ?_; simp only [zz]
              refine tk 7 rfl ?_; simp only [zz]
              refine wpAnyH_ready (rs := [8]) (by kernel_rfl) (by simp) ?_
              refine AllReadyH.cons rfl (fun K hK => ?_) AllReadyH.nil
              simp only [z1, z2, z3]
              go_simp
              refine HC.out.mono ?_
              rintro e w5 ⟨rfl, hB5⟩
              have hX5 : Below wb.heap.size wb w5 := ((Below.refl wb.heap.size wb).drew).trans hB5
              refine hK.out _ _ (HZ.out w5 hX5) (fun hHeld => ?_)
              clear hK K
              try simp only [zz]
              refine tk 9 rfl ?_; simp only [zz]
              refine tk 10 rfl ?_; simp only [zz]
              refine tk 11 rfl ?_; simp only [zz]
              refine tu 12 rfl ?_; simp only [zz]
              refine tu 13 rfl ?_; simp only [zz]
              refine tu 14 rfl ?_; simp only [zz]
              refine tu 15 rfl ?_; simp only [zz]
              refine tu 16 rfl ?_; simp only [zz]
              refine tu 17 rfl ?_; simp only [zz]
              refine tu 18 rfl ?_; simp only [zz]
              refine tu 19 rfl ?_; simp only [zz]
              refine tu 20 rfl ?_; simp only [zz]
              refine tu 21 rfl ?_; simp only [zz]
              refine tu 22 rfl ?_; simp only [zz]
              refine tu 23 rfl ?_; simp only [zz]
              refine tu 24 rfl ?_; simp only [zz]
              refine tu 25 rfl ?_; simp only [zz]
              refine tk 26 rfl ?_; simp only [zz]
              refine tk 27 rfl ?_; simp only [zz]
              refine tu 28 rfl ?_; simp only [zz]
              refine tu 29 rfl ?_; simp only [zz]
              refine tu 30 rfl ?_; simp only [zz]
              refine tu 31 rfl ?_; simp only [zz]
              refine tu 32 rfl ?_; simp only [zz]
              refine tu 33 rfl ?_; simp only [zz]
              refine tu 34 rfl ?_; simp only [zz]
              refine tu 35 rfl ?_; simp only [zz]
              refine tu 36 rfl ?_; simp only [zz]
              refine tu 37 rfl ?_; simp only [zz]
              refine tu 38 rfl ?_; simp only [zz]
              refine tu 39 rfl ?_; simp only [zz]
              refine tu 40 rfl ?_; simp only [zz]
              refine tu 41 rfl ?_; simp only [zz]
              refine tk 42 rfl ?_; simp only [zz]
              refine wpAnyH_done (by kernel_rfl) ?_ _
              go_wp2_with fail
              go_meet
              exact ⟨by rw [HO.out]; rfl, hX5⟩
            · rw [his] at HC0
              have HC := HC0
              obtain ⟨n, rfl, hn⟩ := isB_nat his
              have N0 : (0 : Int) ≤ ((n : Nat) : Int) := by omega
              have N1 : ((n : Nat) : Int) < ((g.evs.length : Nat) : Int) := by omega
              have z0 := HAb.out.c2 n _ (Gr.ev_at hn)
              have z1 := HAb.out.c3 n _ (Gr.ev_at hn)
              have z2 := HAb.out.c2 rr _ (Gr.ev_at hlt)
              have z3 := HAb.out.c3 rr _ (Gr.ev_at hlt)
              have hs := HAb.out.lt
              have HO5 : Hid (ok4 g kk = (decide ((g.ev n).l = (g.ev rr).l) && decide ((g.ev n).v = (g.ev rr).v))) := by rw [Hid, HO4.out, his, hpb, Int.toNat_natCast, Int.toNat_natCast]; simp
              generalize (g.ev n).l = la at *
              generalize (g.ev n).v = va at *
              generalize (g.ev rr).l = lb at *
              generalize (g.ev rr).v = vb at *
              have HZ2 : Hid (∀ W, Below wb.heap.size wb W → W.cell? ⟨gb, 0, none⟩ = some (.int .i64 g.cells) ∧ W.cell? ⟨gb, 1, none⟩ = some (.slice (some ⟨s, o, none⟩) g.evs.length ce) ∧ W.cell? ⟨gb, 2, none⟩ = some (.slice (some ⟨s2, o2, none⟩) g.rf.length cr) ∧ W.cell? ⟨gb, 3, none⟩ = some (Vc) ∧ W.cell? ⟨gb, 4, none⟩ = some (Vm) ∧ W.cell? ⟨gb, 5, none⟩ = some (Va) ∧ W.cell? ⟨gb, 6, none⟩ = some (Vd) ∧ W.cell? ⟨gb, 7, none⟩ = some (Vt) ∧ W.cell? ⟨gp, 0, none⟩ = some (.int .i64 ((n : Nat) : Int)) ∧ W.cell? ⟨gp, 1, none⟩ = some (.int .i64 pb) ∧ W.cell? ⟨s, o + n * 5 + 2, none⟩ = some (.int .i64 la) ∧ W.cell? ⟨s, o + n * 5 + 3, none⟩ = some (.int .u64 va) ∧ W.cell? ⟨s, o + rr * 5 + 2, none⟩ = some (.int .i64 lb) ∧ W.cell? ⟨s, o + rr * 5 + 3, none⟩ = some (.int .u64 vb)) := fun W hW => by
                obtain ⟨a0, a1, a2, a3, a4, a5, a6, a7, a8, a9⟩ := HZ.out W hW
                exact ⟨a0, a1, a2, a3, a4, a5, a6, a7, a8, a9, (hW.cell (p := ⟨s, o + n * 5 + 2, none⟩) hs).trans z0, (hW.cell (p := ⟨s, o + n * 5 + 3, none⟩) hs).trans z1, (hW.cell (p := ⟨s, o + rr * 5 + 2, none⟩) hs).trans z2, (hW.cell (p := ⟨s, o + rr * 5 + 3, none⟩) hs).trans z3⟩
              clear HC0 his hpb z0 z1 z2 z3 HO4
              by_cases hll : la = lb
              · have q3 : ((la : Int) != lb) = false := by simp [hll]
                by_cases hvv : va = vb
                · have q4 : ((va : Int) != vb) = false := by simp [hvv]
                  have HO : Hid (ok4 g kk = true) := by rw [Hid, HO5.out, decide_eq_true hll, decide_eq_true hvv]; rfl
                  clear hll hvv
                  refine wp_region_held_drew (S := (fun w' => w'.cell? ⟨gb, 0, none⟩ = some (.int .i64 g.cells) ∧ w'.cell? ⟨gb, 1, none⟩ = some (.slice (some ⟨s, o, none⟩) g.evs.length ce) ∧ w'.cell? ⟨gb, 2, none⟩ = some (.slice (some ⟨s2, o2, none⟩) g.rf.length cr) ∧ w'.cell? ⟨gb, 3, none⟩ = some (Vc) ∧ w'.cell? ⟨gb, 4, none⟩ = some (Vm) ∧ w'.cell? ⟨gb, 5, none⟩ = some (Va) ∧ w'.cell? ⟨gb, 6, none⟩ = some (Vd) ∧ w'.cell? ⟨gb, 7, none⟩ = some (Vt) ∧ w'.cell? ⟨gp, 0, none⟩ = some (.int .i64 ((n : Nat) : Int)) ∧ w'.cell? ⟨gp, 1, none⟩ = some (.int .i64 pb) ∧ w'.cell? ⟨s, o + n * 5 + 2, none⟩ = some (.int .i64 la) ∧ w'.cell? ⟨s, o + n * 5 + 3, none⟩ = some (.int .u64 va) ∧ w'.cell? ⟨s, o + rr * 5 + 2, none⟩ = some (.int .i64 lb) ∧ w'.cell? ⟨s, o + rr * 5 + 3, none⟩ = some (.int .u64 vb))) (by kernel_rfl) (HZ2.out _ (Below.refl _ _).drew) (fun hHeld => ?_)
                  refine tk 0 rfl ?_; simp only [zz]
                  refine tk 1 rfl ?_; simp only [zz]
                  refine tk 2 rfl ?_; simp only [zz]
                  refine tk 3 rfl ?_; simp only [zz]
                  refine tk 4 rfl ?_; simp only [zz]
                  refine tk 5 rfl ?_; simp only [zz]
                  refine tk 6 rfl ?_; simp only [zz]
                  refine tk 7 rfl ?_; simp only [zz]
                  refine wpAnyH_ready (rs := [8]) (by kernel_rfl) (by simp) ?_
                  refine AllReadyH.cons rfl (fun K hK => ?_) AllReadyH.nil
                  simp only [z1, z2, z3]
                  go_simp
                  refine HC.out.mono ?_
                  rintro e w5 ⟨rfl, hB5⟩
                  have hX5 : Below wb.heap.size wb w5 := ((Below.refl wb.heap.size wb).drew).trans hB5
                  refine hK.out _ _ (HZ2.out w5 hX5) (fun hHeld => ?_)
                  clear hK K
                  try simp only [zz]
                  refine tk 9 rfl ?_; simp only [zz]
                  refine tk 10 rfl ?_; simp only [zz]
                  refine tk 11 rfl ?_; simp only [zz]
                  refine tk 12 rfl ?_; simp only [zz]
                  refine tk 13 rfl ?_; simp only [zz]
                  refine tk 14 rfl ?_; simp only [zz]
                  refine tk 15 rfl ?_; simp only [zz]
                  refine tk 16 rfl ?_; simp only [zz]
                  refine tk 17 rfl ?_; simp only [zz]
                  refine tk 18 rfl ?_; simp only [zz]
                  refine tk 19 rfl ?_; simp only [zz]
                  refine tk 20 rfl ?_; simp only [zz]
                  refine tk 21 rfl ?_; simp only [zz]
                  refine tk 22 rfl ?_; simp only [zz]
                  refine tk 23 rfl ?_; simp only [zz]
                  refine tk 24 rfl ?_; simp only [zz]
                  refine tk 25 rfl ?_; simp only [zz]
                  refine tk 26 rfl ?_; simp only [zz]
                  refine tk 27 rfl ?_; simp only [zz]
                  refine tk 28 rfl ?_; simp only [zz]
                  refine tk 29 rfl ?_; simp only [zz]
                  refine tk 30 rfl ?_; simp only [zz]
                  refine tk 31 rfl ?_; simp only [zz]
                  refine tk 32 rfl ?_; simp only [zz]
                  refine tk 33 rfl ?_; simp only [zz]
                  refine tk 34 rfl ?_; simp only [zz]
                  refine tk 35 rfl ?_; simp only [zz]
                  refine tk 36 rfl ?_; simp only [zz]
                  refine tk 37 rfl ?_; simp only [zz]
                  refine tk 38 rfl ?_; simp only [zz]
                  refine tk 39 rfl ?_; simp only [zz]
                  refine tk 40 rfl ?_; simp only [zz]
                  refine tk 41 rfl ?_; simp only [zz]
                  refine tk 42 rfl ?_; simp only [zz]
                  refine wpAnyH_done (by kernel_rfl) ?_ _
                  go_wp2_with fail
                  go_meet
                  exact ⟨by rw [HO.out]; rfl, hX5⟩
                · have q4 : ((va : Int) != vb) = true := by simp [hvv]
                  have HO : Hid (ok4 g kk = false) := by rw [Hid, HO5.out, decide_eq_false hvv]; simp
                  clear hll hvv
                  refine wp_region_held_drew (S := (fun w' => w'.cell? ⟨gb, 0, none⟩ = some (.int .i64 g.cells) ∧ w'.cell? ⟨gb, 1, none⟩ = some (.slice (some ⟨s, o, none⟩) g.evs.length ce) ∧ w'.cell? ⟨gb, 2, none⟩ = some (.slice (some ⟨s2, o2, none⟩) g.rf.length cr) ∧ w'.cell? ⟨gb, 3, none⟩ = some (Vc) ∧ w'.cell? ⟨gb, 4, none⟩ = some (Vm) ∧ w'.cell? ⟨gb, 5, none⟩ = some (Va) ∧ w'.cell? ⟨gb, 6, none⟩ = some (Vd) ∧ w'.cell? ⟨gb, 7, none⟩ = some (Vt) ∧ w'.cell? ⟨gp, 0, none⟩ = some (.int .i64 ((n : Nat) : Int)) ∧ w'.cell? ⟨gp, 1, none⟩ = some (.int .i64 pb) ∧ w'.cell? ⟨s, o + n * 5 + 2, none⟩ = some (.int .i64 la) ∧ w'.cell? ⟨s, o + n * 5 + 3, none⟩ = some (.int .u64 va) ∧ w'.cell? ⟨s, o + rr * 5 + 2, none⟩ = some (.int .i64 lb) ∧ w'.cell? ⟨s, o + rr * 5 + 3, none⟩ = some (.int .u64 vb))) (by kernel_rfl) (HZ2.out _ (Below.refl _ _).drew) (fun hHeld => ?_)
                  refine tk 0 rfl ?_; simp only [zz]
                  refine tk 1 rfl ?_; simp only [zz]
                  refine tk 2 rfl ?_; simp only [zz]
                  refine tk 3 rfl ?_; simp only [zz]
                  refine tk 4 rfl ?_; simp only [zz]
                  refine tk 5 rfl ?_; simp only [zz]
                  refine tk 6 rfl ?_; simp only [zz]
                  refine tk 7 rfl ?_; simp only [zz]
                  refine wpAnyH_ready (rs := [8]) (by kernel_rfl) (by simp) ?_
                  refine AllReadyH.cons rfl (fun K hK => ?_) AllReadyH.nil
                  simp only [z1, z2, z3]
                  go_simp
                  refine HC.out.mono ?_
                  rintro e w5 ⟨rfl, hB5⟩
                  have hX5 : Below wb.heap.size wb w5 := ((Below.refl wb.heap.size wb).drew).trans hB5
                  refine hK.out _ _ (HZ2.out w5 hX5) (fun hHeld => ?_)
                  clear hK K
                  try simp only [zz]
                  refine tk 9 rfl ?_; simp only [zz]
                  refine tk 10 rfl ?_; simp only [zz]
                  refine tk 11 rfl ?_; simp only [zz]
                  refine tk 12 rfl ?_; simp only [zz]
                  refine tk 13 rfl ?_; simp only [zz]
                  refine tk 14 rfl ?_; simp only [zz]
                  refine tk 15 rfl ?_; simp only [zz]
                  refine tk 16 rfl ?_; simp only [zz]
                  refine tk 17 rfl ?_; simp only [zz]
                  refine tk 18 rfl ?_; simp only [zz]
                  refine tk 19 rfl ?_; simp only [zz]
                  refine tk 20 rfl ?_; simp only [zz]
                  refine tk 21 rfl ?_; simp only [zz]
                  refine tk 22 rfl ?_; simp only [zz]
                  refine tk 23 rfl ?_; simp only [zz]
                  refine tk 24 rfl ?_; simp only [zz]
                  refine tk 25 rfl ?_; simp only [zz]
                  refine tk 26 rfl ?_; simp only [zz]
                  refine tk 27 rfl ?_; simp only [zz]
                  refine tk 28 rfl ?_; simp only [zz]
                  refine tk 29 rfl ?_; simp only [zz]
                  refine tk 30 rfl ?_; simp only [zz]
                  refine tk 31 rfl ?_; simp only [zz]
                  refine tk 32 rfl ?_; simp only [zz]
                  refine tk 33 rfl ?_; simp only [zz]
                  refine tk 34 rfl ?_; simp only [zz]
                  refine tk 35 rfl ?_; simp only [zz]
                  refine tk 36 rfl ?_; simp only [zz]
                  refine tk 37 rfl ?_; simp only [zz]
                  refine tk 38 rfl ?_; simp only [zz]
                  refine tk 39 rfl ?_; simp only [zz]
                  refine tk 40 rfl ?_; simp only [zz]
                  refine tk 41 rfl ?_; simp only [zz]
                  refine tk 42 rfl ?_; simp only [zz]
                  refine wpAnyH_done (by kernel_rfl) ?_ _
                  go_wp2_with fail
                  go_meet
                  exact ⟨by rw [HO.out]; rfl, hX5⟩
              · have q3 : ((la : Int) != lb) = true := by simp [hll]
                have HO : Hid (ok4 g kk = false) := by rw [Hid, HO5.out, decide_eq_false hll]; rfl
                clear hll
                refine wp_region_held_drew (S := (fun w' => w'.cell? ⟨gb, 0, none⟩ = some (.int .i64 g.cells) ∧ w'.cell? ⟨gb, 1, none⟩ = some (.slice (some ⟨s, o, none⟩) g.evs.length ce) ∧ w'.cell? ⟨gb, 2, none⟩ = some (.slice (some ⟨s2, o2, none⟩) g.rf.length cr) ∧ w'.cell? ⟨gb, 3, none⟩ = some (Vc) ∧ w'.cell? ⟨gb, 4, none⟩ = some (Vm) ∧ w'.cell? ⟨gb, 5, none⟩ = some (Va) ∧ w'.cell? ⟨gb, 6, none⟩ = some (Vd) ∧ w'.cell? ⟨gb, 7, none⟩ = some (Vt) ∧ w'.cell? ⟨gp, 0, none⟩ = some (.int .i64 ((n : Nat) : Int)) ∧ w'.cell? ⟨gp, 1, none⟩ = some (.int .i64 pb) ∧ w'.cell? ⟨s, o + n * 5 + 2, none⟩ = some (.int .i64 la) ∧ w'.cell? ⟨s, o + n * 5 + 3, none⟩ = some (.int .u64 va) ∧ w'.cell? ⟨s, o + rr * 5 + 2, none⟩ = some (.int .i64 lb) ∧ w'.cell? ⟨s, o + rr * 5 + 3, none⟩ = some (.int .u64 vb))) (by kernel_rfl) (HZ2.out _ (Below.refl _ _).drew) (fun hHeld => ?_)
                refine tk 0 rfl ?_; simp only [zz]
                refine tk 1 rfl ?_; simp only [zz]
                refine tk 2 rfl ?_; simp only [zz]
                refine tk 3 rfl ?_; simp only [zz]
                refine tk 4 rfl ?_; simp only [zz]
                refine tk 5 rfl ?_; simp only [zz]
                refine tk 6 rfl ?_; simp only [zz]
                refine tk 7 rfl ?_; simp only [zz]
                refine wpAnyH_ready (rs := [8]) (by kernel_rfl) (by simp) ?_
                refine AllReadyH.cons rfl (fun K hK => ?_) AllReadyH.nil
                simp only [z1, z2, z3]
                go_simp
                refine HC.out.mono ?_
                rintro e w5 ⟨rfl, hB5⟩
                have hX5 : Below wb.heap.size wb w5 := ((Below.refl wb.heap.size wb).drew).trans hB5
                refine hK.out _ _ (HZ2.out w5 hX5) (fun hHeld => ?_)
                clear hK K
                try simp only [zz]
                refine tk 9 rfl ?_; simp only [zz]
                refine tk 10 rfl ?_; simp only [zz]
                refine tk 11 rfl ?_; simp only [zz]
                refine tk 12 rfl ?_; simp only [zz]
                refine tk 13 rfl ?_; simp only [zz]
                refine tk 14 rfl ?_; simp only [zz]
                refine tk 15 rfl ?_; simp only [zz]
                refine tk 16 rfl ?_; simp only [zz]
                refine tk 17 rfl ?_; simp only [zz]
                refine tk 18 rfl ?_; simp only [zz]
                refine tk 19 rfl ?_; simp only [zz]
                refine tk 20 rfl ?_; simp only [zz]
                refine tk 21 rfl ?_; simp only [zz]
                refine tk 22 rfl ?_; simp only [zz]
                refine tk 23 rfl ?_; simp only [zz]
                refine tk 24 rfl ?_; simp only [zz]
                refine tk 25 rfl ?_; simp only [zz]
                refine tk 26 rfl ?_; simp only [zz]
                refine tk 27 rfl ?_; simp only [zz]
                refine tu 28 rfl ?_; simp only [zz]
                refine tu 29 rfl ?_; simp only [zz]
                refine tu 30 rfl ?_; simp only [zz]
                refine tu 31 rfl ?_; simp only [zz]
                refine tu 32 rfl ?_; simp only [zz]
                refine tu 33 rfl ?_; simp only [zz]
                refine tu 34 rfl ?_; simp only [zz]
                refine tu 35 rfl ?_; simp only [zz]
                refine tu 36 rfl ?_; simp only [zz]
                refine tu 37 rfl ?_; simp only [zz]
                refine tu 38 rfl ?_; simp only [zz]
                refine tu 39 rfl ?_; simp only [zz]
                refine tu 40 rfl ?_; simp only [zz]
                refine tu 41 rfl ?_; simp only [zz]
                refine tk 42 rfl ?_; simp only [zz]
                refine wpAnyH_done (by kernel_rfl) ?_ _
                go_wp2_with fail
                go_meet
                exact ⟨by rw [HO.out]; rfl, hX5⟩
          · have q2 : ((pb : Int) != ((rr : Nat) : Int)) = true := by simp [hpb]
            have HO : Hid (ok4 g kk = false) := by rw [Hid, HO4.out, decide_eq_false hpb]; rfl
            clear hpb HC0
            refine wp_region_held_drew (S := (fun w' => w'.cell? ⟨gb, 0, none⟩ = some (.int .i64 g.cells) ∧ w'.cell? ⟨gb, 1, none⟩ = some (.slice (some ⟨s, o, none⟩) g.evs.length ce) ∧ w'.cell? ⟨gb, 2, none⟩ = some (.slice (some ⟨s2, o2, none⟩) g.rf.length cr) ∧ w'.cell? ⟨gb, 3, none⟩ = some (Vc) ∧ w'.cell? ⟨gb, 4, none⟩ = some (Vm) ∧ w'.cell? ⟨gb, 5, none⟩ = some (Va) ∧ w'.cell? ⟨gb, 6, none⟩ = some (Vd) ∧ w'.cell? ⟨gb, 7, none⟩ = some (Vt) ∧ w'.cell? ⟨gp, 0, none⟩ = some (.int .i64 pa) ∧ w'.cell? ⟨gp, 1, none⟩ = some (.int .i64 pb))) (by kernel_rfl) (HZ.out _ (Below.refl _ _).drew) (fun hHeld => ?_)
            refine tk 0 rfl ?_; simp only [zz]
            refine tk 1 rfl ?_; simp only [zz]
            refine tk 2 rfl ?_; simp only [zz]
            refine tk 3 rfl ?_; simp only [zz]
            refine tk 4 rfl ?_; simp only [zz]
            refine tu 5 rfl ?_; simp only [zz]
            refine tu 6 rfl ?_; simp only [zz]
            refine tu 7 rfl ?_; simp only [zz]
            refine tu 8 rfl ?_; simp only [zz]
            refine tu 9 rfl ?_; simp only [zz]
            refine tk 10 rfl ?_; simp only [zz]
            refine tk 11 rfl ?_; simp only [zz]
            refine tu 12 rfl ?_; simp only [zz]
            refine tu 13 rfl ?_; simp only [zz]
            refine tu 14 rfl ?_; simp only [zz]
            refine tu 15 rfl ?_; simp only [zz]
            refine tu 16 rfl ?_; simp only [zz]
            refine tu 17 rfl ?_; simp only [zz]
            refine tu 18 rfl ?_; simp only [zz]
            refine tu 19 rfl ?_; simp only [zz]
            refine tu 20 rfl ?_; simp only [zz]
            refine tu 21 rfl ?_; simp only [zz]
            refine tu 22 rfl ?_; simp only [zz]
            refine tu 23 rfl ?_; simp only [zz]
            refine tu 24 rfl ?_; simp only [zz]
            refine tu 25 rfl ?_; simp only [zz]
            refine tk 26 rfl ?_; simp only [zz]
            refine tk 27 rfl ?_; simp only [zz]
            refine tu 28 rfl ?_; simp only [zz]
            refine tu 29 rfl ?_; simp only [zz]
            refine tu 30 rfl ?_; simp only [zz]
            refine tu 31 rfl ?_; simp only [zz]
            refine tu 32 rfl ?_; simp only [zz]
            refine tu 33 rfl ?_; simp only [zz]
            refine tu 34 rfl ?_; simp only [zz]
            refine tu 35 rfl ?_; simp only [zz]
            refine tu 36 rfl ?_; simp only [zz]
            refine tu 37 rfl ?_; simp only [zz]
            refine tu 38 rfl ?_; simp only [zz]
            refine tu 39 rfl ?_; simp only [zz]
            refine tu 40 rfl ?_; simp only [zz]
            refine tu 41 rfl ?_; simp only [zz]
            refine tk 42 rfl ?_; simp only [zz]
            refine wpAnyH_done (by kernel_rfl) ?_ _
            go_wp2_with fail
            go_meet
            exact ⟨by rw [HO.out]; rfl, (Below.refl _ _).drew⟩
        · have d1 : (((g.rf.length : Nat) : Int) ≤ ((kk : Nat) : Int)) := by omega
          obtain rfl : res = ((kk : Nat) : Int) := by
            rw [← HR.out, bad4_all (fun j hj => HALL.out j (by omega)), if_pos (by have := HRD.out.1; omega)]
            omega
          go_wp2_with fail
          go_ret
          exact ⟨rfl, HBW.out⟩
      · have q1 : (((g.ev rr).k : Int) != 1) = true := by simp [hk]
        have HSAME : Hid (kk = (numK rdP g.evs (rr + 1)).length) := by rw [Hid, numK_no' hk, HKK.out]
        clear hk
        go_wp2_with fail
        go_roundg (g.evs.length - (rr + 1))
        case measure => have := HKF.out; omega
        case rel => exact ⟨rr + 1, kk, by go_num, rfl, by omega, hk0, by have := HKF.out; rw [Hid]; omega, HSAME.out, HALL.out, HW.out⟩
    · obtain rfl : rr = g.evs.length := by omega
      have HRL : Hid (kk = g.reads.length) := by rw [Hid, hrl'.out]; exact HKK.out
      by_cases hkl : kk < g.rf.length
      · obtain rfl : res = ((kk : Nat) : Int) := by
          rw [← HR.out]
          exact bad4_hit hkl HALL.out (by unfold ok4 ok4a; rw [decide_eq_false (by have := HRL.out; omega)]; simp)
        go_wp2_with fail
        go_ret
        exact ⟨rfl, HBW.out⟩
      · obtain rfl : res = -1 := by
          rw [← HR.out, bad4_all (fun j hj => HALL.out j (by omega)), if_neg (by have := HRL.out; omega)]
        go_wp2_with fail
        go_ret
        exact ⟨rfl, HBW.out⟩
end Go.Proofs.YthiijcappjaagaaGreatDoor
namespace Go.Proofs.YthiijcappjaagaaGreatDoor
open Go.RowKit Go.Shelf Sx
theorem sub_of_mem : ∀ (b a : List Int), a.Pairwise (· < ·) → b.Pairwise (· < ·) → (∀ x ∈ a, x ∈ b) → a.Sublist b
  | [], a, _, _, h => by
    cases a with
    | nil => exact List.Sublist.slnil
    | cons x a => exact absurd (h x (by simp)) (by simp)
  | y :: b, [], _, _, _ => List.nil_sublist _
  | y :: b, x :: a, ha, hb, h => by
    obtain ⟨ha1, ha2⟩ := List.pairwise_cons.1 ha
    obtain ⟨hb1, hb2⟩ := List.pairwise_cons.1 hb
    by_cases e : x = y
    · subst e
      refine List.Sublist.cons_cons x (sub_of_mem b a ha2 hb2 (fun z hz => ?_))
      have h1 := h z (by simp [hz])
      have h2 := ha1 z hz
      rcases List.mem_cons.1 h1 with rfl | h3
      · omega
      · exact h3
    · have hx : x ∈ b := by
        rcases List.mem_cons.1 (h x (by simp)) with h1 | h1
        · exact absurd h1 e
        · exact h1
      have hy := hb1 x hx
      refine List.Sublist.cons y (sub_of_mem b (x :: a) ha hb2 (fun z hz => ?_))
      rcases List.mem_cons.1 (h z hz) with h1 | h1
      · rcases List.mem_cons.1 hz with h2 | h2
        · omega
        · have := ha1 z h2; omega
      · exact h1
theorem wrs_rise (g : Gr) (c : Int) (k : Nat) : (wrs g c k).Pairwise (· < ·) := by
  unfold wrs
  rw [List.pairwise_map]
  refine List.Pairwise.imp (R := (· < ·)) (fun {a b} h => by omega) ?_
  exact List.Pairwise.filter _ List.pairwise_lt_range
theorem srtI_le (l : List Int) : (srtI l).Pairwise (· ≤ ·) := by
  unfold srtI
  have := List.pairwise_mergeSort (le := fun x y : Int => decide (x ≤ y)) (by intro a b c; simp; omega) (by intro a b; simp; omega) l
  exact this.imp (fun h => by simpa using h)
theorem srtI_perm (l : List Int) : (srtI l).Perm l := by unfold srtI; exact List.mergeSort_perm l _
theorem nodup_lt {l : List Int} (h : l.Pairwise (· ≤ ·)) (hn : l.Nodup) : l.Pairwise (· < ·) := by
  have := List.Pairwise.and h hn
  exact this.imp (fun ⟨h1, h2⟩ => by omega)
def coOk (g : Gr) (c : Int) (l : List Int) : Prop := (∀ (i : Nat) (x : Int), l[i]? = some x → ∃ n : Nat, x = ((n : Nat) : Int) ∧ n < g.evs.length ∧ isWr g c n = true) ∧ ∀ (i j : Nat) (x : Int), j < i → l[i]? = some x → l[j]? ≠ some x
theorem nodup_of {l : List Int} (h : ∀ (i j : Nat) (x : Int), j < i → l[i]? = some x → l[j]? ≠ some x) : l.Nodup := by
  rw [List.Nodup, List.pairwise_iff_getElem]
  intro i j hi hj hij e
  exact h j i l[j] hij (List.getElem?_eq_getElem hj) (by rw [List.getElem?_eq_getElem hi, e])
theorem ord_of_co {g : Gr} {c : Int} {l : List Int} (hl : l.length = (wrs g c g.evs.length).length) (h0 : l.getD 0 0 = c) (h : coOk g c l) : isOrdB l c (wrs g c g.evs.length) = true := by
  have hm : ∀ x ∈ srtI l, x ∈ wrs g c g.evs.length := fun x hx => by
    obtain ⟨i, hi, e⟩ := List.mem_iff_getElem.1 (srtI_mem.1 hx)
    obtain ⟨n, hn, h1, h2⟩ := h.1 i x (by rw [List.getElem?_eq_getElem hi, e])
    exact mem_wrs.2 ⟨n, hn, h1, h2⟩
  have hr := nodup_lt (srtI_le l) ((srtI_perm l).nodup_iff.2 (nodup_of h.2))
  have hs := sub_of_mem _ _ hr (wrs_rise g c _) hm
  have he := hs.eq_of_length (by rw [srtI_len, hl])
  unfold isOrdB
  rw [decide_eq_true hl, decide_eq_true h0, decide_eq_true he]
  rfl
theorem co_of_ord {g : Gr} {c : Int} {l : List Int} (h : isOrdB l c (wrs g c g.evs.length) = true) : l.length = (wrs g c g.evs.length).length ∧ l.getD 0 0 = c ∧ coOk g c l := by
  obtain ⟨h1, h2, h3⟩ := ord_parts h
  refine ⟨h1, h2, fun i x hx => ?_, fun i j x hij hx hy => ?_⟩
  · have : x ∈ srtI l := srtI_mem.2 (List.mem_of_getElem? hx)
    rw [h3] at this
    obtain ⟨n, e, hn, hw⟩ := mem_wrs.1 this
    exact ⟨n, e, hn, hw⟩
  · have hn : l.Nodup := by
      rw [← (srtI_perm l).nodup_iff, h3]
      exact (wrs_rise g c _).imp (fun h => by omega)
    rw [List.Nodup, List.pairwise_iff_getElem] at hn
    obtain ⟨hi, e1⟩ := List.getElem?_eq_some_iff.1 hx
    obtain ⟨hj, e2⟩ := List.getElem?_eq_some_iff.1 hy
    exact hn j i hj hi hij (by rw [e1, e2])
end Go.Proofs.YthiijcappjaagaaGreatDoor
namespace Go.Proofs.YthiijcappjaagaaGreatDoor
open Go.RowKit Go.Shelf Sx
theorem bad5_hit {g : Gr} {n c : Nat} (hn : g.cells = (n : Int)) (hc : c < n) (h : ∀ j, j < c → bad5c g j = false) (hb : bad5c g c = true) : bad5 g = (c : Int) := by
  have : fstBad (bad5c g) 0 g.cells.toNat = (c : Int) := by
    rw [hn, Int.toNat_natCast]
    exact fstBad_hit (Nat.zero_le _) (by omega) (fun j _ hj => h j hj) hb
  unfold bad5
  rw [this, if_neg (by omega)]
theorem bad5_all {g : Gr} {n : Nat} (hn : g.cells = (n : Int)) (h : ∀ j, j < n → bad5c g j = false) : bad5 g = (if (g.co.length : Int) ≤ (n : Int) then -1 else (n : Int)) := by
  have : fstBad (bad5c g) 0 g.cells.toNat = -1 := by
    rw [hn, Int.toNat_natCast]
    exact fstBad_none (fun j _ hj => h j (by omega))
  unfold bad5
  rw [this, if_pos rfl, hn]
def coAt (g : Gr) (c x : Int) : Bool := isB g.evs x [2] && decide ((g.ev x.toNat).l = c)
theorem coAt_iff {g : Gr} {c x : Int} : coAt g c x = true ↔ ∃ n : Nat, x = ((n : Nat) : Int) ∧ n < g.evs.length ∧ isWr g c n = true := by
  constructor
  · intro h
    obtain ⟨h1, h2⟩ := Bool.and_eq_true_iff.1 h
    obtain ⟨n, rfl, hn⟩ := isB_nat h1
    refine ⟨n, rfl, hn, ?_⟩
    have hk0 : (g.evs.getD n Ev.zero).k = 2 := by
      have := (Bool.and_eq_true_iff.1 h1).2
      rw [Int.toNat_natCast] at this
      simpa using this
    have hk : (g.ev n).k = 2 := hk0
    rw [Int.toNat_natCast] at h2
    unfold isWr
    rw [decide_eq_true hk, h2]
    rfl
  · rintro ⟨n, rfl, hn, hw⟩
    obtain ⟨h1, h2⟩ := Bool.and_eq_true_iff.1 hw
    have hk := of_decide_eq_true h1
    have he : (g.evs.getD n Ev.zero).k = 2 := hk
    unfold coAt isB
    rw [Int.toNat_natCast, h2, decide_eq_true (by omega : (0 : Int) ≤ (n : Int)), decide_eq_true (by omega : ((n : Nat) : Int) < (g.evs.length : Int)), he]
    rfl
def coUp (g : Gr) (c : Int) (l : List Int) (k : Nat) : Prop := (∀ (i : Nat) (x : Int), i < k → l[i]? = some x → coAt g c x = true) ∧ ∀ (i j : Nat) (x : Int), i < k → j < i → l[i]? = some x → l[j]? ≠ some x
theorem coUp_zero (g : Gr) (c : Int) (l : List Int) : coUp g c l 0 := ⟨fun i x h => by omega, fun i j x h => by omega⟩
theorem coUp_succ {g : Gr} {c : Int} {l : List Int} {k : Nat} {x : Int} (h : coUp g c l k) (hx : l[k]? = some x) (ha : coAt g c x = true) (hn : ∀ t, t < k → l[t]? ≠ some x) : coUp g c l (k + 1) := by
  refine ⟨fun i y hi hy => ?_, fun i j y hi hj hy => ?_⟩
  · by_cases e : i = k
    · subst e
      rw [hx] at hy
      cases hy
      exact ha
    · exact h.1 i y (by omega) hy
  · by_cases e : i = k
    · subst e
      rw [hx] at hy
      cases hy
      exact hn j hj
    · exact h.2 i j y (by omega) hj hy
theorem coUp_all {g : Gr} {c : Int} {l : List Int} (h : coUp g c l l.length) : coOk g c l := by
  refine ⟨fun i x hx => coAt_iff.1 (h.1 i x (List.getElem?_eq_some_iff.1 hx).1 hx), fun i j x hj hx => h.2 i j x (List.getElem?_eq_some_iff.1 hx).1 hj hx⟩
set_option linter.unusedSimpArgs false in
set_option maxRecDepth 100000 in
set_option maxHeartbeats 16000000 in
theorem r8co_calls (V : GrV) (g : Gr) (q : Bool) (w : World) (h : GrR w V g) (h1 : bad1 g = false) (h2 : bad2 g q = -1) : Calls Tryz.prog 43 #[V.val g] w fun r w' => r = .returned (.int .i64 (bad5 g)) ∧ Below w.heap.size w w' := by
  have hsz : 0 ≤ g.cells ∧ g.cells ≤ (g.evs.length : Int) ∧ g.evs.length ≤ 256 := by
    simp [bad1] at h1
    omega
  obtain ⟨nc, hn⟩ : ∃ n : Nat, g.cells = (n : Int) := ⟨g.cells.toNat, by omega⟩
  have hl256 := hsz.2.2
  have hnl : nc ≤ g.evs.length := by omega
  obtain ⟨Ve, Vr, Vc, Vm, Va, Vd, Vt⟩ := V
  obtain ⟨pe, ce, ee, hp, _⟩ := h.ev
  obtain ⟨pc, cc2, ec, hcl, hco⟩ := coarg_form h.co
  dsimp only at ee ec
  subst ee
  subst ec
  have HP := hid_of hp
  have HCO := hid_of hco
  have H := hid_of h
  have H1 := hid_of h1
  have H2 := hid_of h2
  have HN := hid_of hn
  generalize hr : bad5 g = res
  have HR := hid_of hr
  have hB : Below w.heap.size w (w.alloc (.cells #[.int .i64 ((nc : Nat) : Int), .slice pe g.evs.length ce, Vr, .slice pc g.co.length cc2, Vm, Va, Vd, Vt] 26)) := (Below.refl _ _).alloc (Nat.le_refl _) _
  have hb := Blk.new w 26 #[.int .i64 ((nc : Nat) : Int), .slice pe g.evs.length ce, Vr, .slice pc g.co.length cc2, Vm, Va, Vd, Vt]
  unfold GrV.val
  dsimp only
  rw [hn]
  clear hr hp h hco h1 h2 hsz hn
  go_enter Tryz.func43, Tryz.ntmps43
  go_wp2_with fail
  have HB := hid_of hB
  have HG := hid_of hb
  generalize w.alloc (.cells #[.int .i64 ((nc : Nat) : Int), .slice pe g.evs.length ce, Vr, .slice pc g.co.length cc2, Vm, Va, Vd, Vt] 26) = W0 at *
  clear hb hB
  go_loopg [3] nc (fun f v3 wr => ∃ c : Nat, v3 = .int .i64 ((c : Nat) : Int) ∧ c ≤ nc ∧ c ≤ g.co.length ∧ Hid (c + f = nc) ∧ Hid (∀ j, j < c → bad5c g j = false) ∧ Hid (Below W0.heap.size W0 wr))
  case atStart => exact ⟨0, rfl, Nat.zero_le _, Nat.zero_le _, Nat.zero_add _, (fun j h => by omega), Below.refl _ _⟩
  case round =>
    obtain ⟨c, rfl, hcn, hcc, HKF, HALL, HW⟩ := hrel
    generalize hwq : wr = wa at *
    clear hwq
    have HBW : Hid (Below w.heap.size w wa) := below_step HB.out HB.out.size HW.out
    have hG := HG.out.of_below HW.out
    have c0 : wa.cell? ⟨w.heap.size, 0, none⟩ = some (.int .i64 ((nc : Nat) : Int)) := hG.cell rfl
    have c1 : wa.cell? ⟨w.heap.size, 1, none⟩ = some (.slice pe g.evs.length ce) := hG.cell rfl
    have c3 : wa.cell? ⟨w.heap.size, 3, none⟩ = some (.slice pc g.co.length cc2) := hG.cell rfl
    clear hG
    have C0 : (0 : Int) ≤ ((c : Nat) : Int) := by omega
    by_cases hlt : c < nc ∧ c < g.co.length
    · obtain ⟨hl1, hl2⟩ := hlt
      have C1 : ((c : Nat) : Int) < ((g.co.length : Nat) : Int) := by omega
      have C2 : ((c : Nat) : Int) < ((nc : Nat) : Int) := by omega
      obtain ⟨l, hl⟩ : ∃ l, g.co[c]? = some l := ⟨_, List.getElem?_eq_getElem hl2⟩
      obtain ⟨sc, oc, u, rfl, hsc, hcu, hiu, hul⟩ := HCO.out c l hl
      obtain ⟨pl, cl, rfl, hpl⟩ := intsR_form hiu
      have x0 : wa.cell? ⟨sc, oc + c, none⟩ = some (.slice pl l.length cl) := (HBW.out.cell (p := ⟨sc, oc + c, none⟩) hsc).trans hcu
      have HPL := hid_of hpl
      have HBAD : Hid (isOrdB l ((c : Nat) : Int) (wrs g ((c : Nat) : Int) g.evs.length) = false → res = ((c : Nat) : Int)) := fun h => by
        rw [← HR.out]
        refine bad5_hit HN.out hl1 HALL.out ?_
        unfold bad5c
        rw [List.getD_eq_getElem?_getD, hl]
        simp [h]
      have HOKN : Hid (isOrdB l ((c : Nat) : Int) (wrs g ((c : Nat) : Int) g.evs.length) = true → ∀ j, j < c + 1 → bad5c g j = false) := fun h j hj => by
        by_cases e : j = c
        · subst e
          unfold bad5c
          rw [List.getD_eq_getElem?_getD, hl]
          simp [h]
          omega
        · exact HALL.out j (by omega)
      have hws : 0 < (wrs g ((c : Nat) : Int) g.evs.length).length := List.length_pos_iff.2 (wrs_ini H1.out H2.out (c := c) (by rw [HN.out]; omega))
      have HWS := hid_of hws
      clear hl hcu hiu hpl hws
      by_cases hl0 : l.length = 0
      · obtain rfl := HBAD.out (by
          cases e : isOrdB l ((c : Nat) : Int) (wrs g ((c : Nat) : Int) g.evs.length)
          · rfl
          · have := (ord_parts e).1; have := HWS.out; omega)
        have q0 : (((l.length : Nat) : Int) == 0) = true := by rw [hl0]; rfl
        clear hl0
        go_wp2_with fail
        go_ret
        exact ⟨rfl, HBW.out⟩
      · have q0 : (((l.length : Nat) : Int) == 0) = false := by rw [beq_eq_false_iff_ne]; omega
        obtain ⟨sl, ol, rfl, hsl, hcl3⟩ := HPL.out (by omega)
        have L0 : 0 < l.length := by omega
        have LP : (0 : Int) < ((l.length : Nat) : Int) := by omega
        obtain ⟨xf, hxf⟩ : ∃ x, l[0]? = some x := ⟨_, List.getElem?_eq_getElem L0⟩
        have y0 : wa.cell? ⟨sl, ol, none⟩ = some (.int .i64 xf) := (HBW.out.cell (p := ⟨sl, ol, none⟩) hsl).trans (hcl3 0 xf hxf)
        have HXF : Hid (l.getD 0 0 = xf) := by rw [Hid, List.getD_eq_getElem?_getD, hxf]; rfl
        have HCL3 := hid_of hcl3
        clear hl0 hxf hcl3
        by_cases hfc : xf = ((c : Nat) : Int)
        · subst hfc
          have q1 : ((((c : Nat) : Int)) != ((c : Nat) : Int)) = false := by simp
          go_wp2_with fail
          clear c0 c3 x0 y0 q0 q1
          go_loopg [5, 6] g.evs.length (fun f v5 v6 wr => ∃ i : Nat, v6 = .int .i64 ((i : Nat) : Int) ∧ v5 = .int .i64 (((wrs g ((c : Nat) : Int) i).length : Nat) : Int) ∧ i ≤ g.evs.length ∧ Hid (i + f = g.evs.length) ∧ wr = wa)
          case atStart => exact ⟨0, rfl, rfl, Nat.zero_le _, Nat.zero_add _, rfl⟩
          case round =>
            obtain ⟨i, rfl, rfl, hi0, HKG, rfl⟩ := hrel
            have I0 : (0 : Int) ≤ ((i : Nat) : Int) := by omega
            by_cases hil : i < g.evs.length
            · have I1 : ((i : Nat) : Int) < ((g.evs.length : Nat) : Int) := by omega
              obtain ⟨s, o, rfl, hat⟩ := HP.out (by omega)
              have x1 := (hat.below HBW.out).c1 i _ (Gr.ev_at hil)
              have x2 := (hat.below HBW.out).c2 i _ (Gr.ev_at hil)
              have hwl := wrs_len g ((c : Nat) : Int) i
              clear hat
              by_cases hk : (g.ev i).k = 2
              · have q2 : (((g.ev i).k : Int) == 2) = true := by rw [beq_iff_eq]; exact hk
                by_cases hlc : (g.ev i).l = ((c : Nat) : Int)
                · have q3 : (((g.ev i).l : Int) == ((c : Nat) : Int)) = true := by rw [beq_iff_eq]; exact hlc
                  have HS : Hid ((wrs g ((c : Nat) : Int) (i + 1)).length = (wrs g ((c : Nat) : Int) i).length + 1) := by rw [Hid, wrs_hit (by simp [isWr, hk, hlc])]; simp
                  clear hk hlc
                  generalize (wrs g ((c : Nat) : Int) i).length = nn at *
                  go_wp2_with fail
                  go_roundg (g.evs.length - (i + 1))
                  case measure => have := HKG.out; omega
                  case rel => exact ⟨i + 1, by go_num, by rw [HS.out]; go_num, by omega, by have := HKG.out; rw [Hid]; omega, rfl⟩
                · have q3 : (((g.ev i).l : Int) == ((c : Nat) : Int)) = false := by rw [beq_eq_false_iff_ne]; exact hlc
                  have HS : Hid ((wrs g ((c : Nat) : Int) (i + 1)).length = (wrs g ((c : Nat) : Int) i).length) := by rw [Hid, wrs_miss (by simp [isWr, hlc])]
                  clear hk hlc
                  go_wp2_with fail
                  go_roundg (g.evs.length - (i + 1))
                  case measure => have := HKG.out; omega
                  case rel => exact ⟨i + 1, by go_num, by rw [HS.out], by omega, by have := HKG.out; rw [Hid]; omega, rfl⟩
              · have q2 : (((g.ev i).k : Int) == 2) = false := by rw [beq_eq_false_iff_ne]; exact hk
                have HS : Hid ((wrs g ((c : Nat) : Int) (i + 1)).length = (wrs g ((c : Nat) : Int) i).length) := by rw [Hid, wrs_miss (by simp [isWr, hk])]
                clear hk
                go_wp2_with fail
                go_roundg (g.evs.length - (i + 1))
                case measure => have := HKG.out; omega
                case rel => exact ⟨i + 1, by go_num, by rw [HS.out], by omega, by have := HKG.out; rw [Hid]; omega, rfl⟩
            · obtain rfl : i = g.evs.length := by omega
              by_cases hll : l.length = (wrs g ((c : Nat) : Int) g.evs.length).length
              · have q4 : (((l.length : Nat) : Int) != (((wrs g ((c : Nat) : Int) g.evs.length).length : Nat) : Int)) = false := by rw [hll]; simp
                have HORD : Hid (coOk g ((c : Nat) : Int) l → isOrdB l ((c : Nat) : Int) (wrs g ((c : Nat) : Int) g.evs.length) = true) := fun h => ord_of_co hll HXF.out h
                have HNOT : Hid (¬ coOk g ((c : Nat) : Int) l → isOrdB l ((c : Nat) : Int) (wrs g ((c : Nat) : Int) g.evs.length) = false) := fun h => by
                  cases e : isOrdB l ((c : Nat) : Int) (wrs g ((c : Nat) : Int) g.evs.length)
                  · rfl
                  · exact absurd (co_of_ord e).2.2 h
                clear hll hil
                generalize (wrs g ((c : Nat) : Int) g.evs.length).length = nw at *
                go_wp2_with fail
                clear q4 c1
                go_loopg [7] l.length (fun f v7 wr => ∃ i : Nat, v7 = .int .i64 ((i : Nat) : Int) ∧ i ≤ l.length ∧ Hid (i + f = l.length) ∧ Hid (coUp g ((c : Nat) : Int) l i) ∧ Hid (Below W0.heap.size W0 wr))
                case atStart => exact ⟨0, rfl, Nat.zero_le _, Nat.zero_add _, coUp_zero _ _ _, HW.out⟩
                case round =>
                  obtain ⟨ii, rfl, hi1, HKH, HUP, HW2⟩ := hrel
                  generalize hwq2 : wr = wb at *
                  clear hwq2
                  have HBb : Hid (Below w.heap.size w wb) := below_step HB.out HB.out.size HW2.out
                  have J0 : (0 : Int) ≤ ((ii : Nat) : Int) := by omega
                  by_cases hil2 : ii < l.length
                  · have J1 : ((ii : Nat) : Int) < ((l.length : Nat) : Int) := by omega
                    obtain ⟨x, hx⟩ : ∃ x, l[ii]? = some x := ⟨_, List.getElem?_eq_getElem hil2⟩
                    have HXX := hid_of hx
                    have HGb := hid_of (HG.out.of_below HW2.out)
                    have HSL : Hid (sl < wb.heap.size) := Nat.lt_of_lt_of_le hsl HBb.out.size
                    have z9 : wb.cell? ⟨sl, ol + ii, none⟩ = some (.int .i64 x) := (HBb.out.cell (p := ⟨sl, ol + ii, none⟩) hsl).trans (HCL3.out ii x hx)
                    have HC0 := hid_of (r8is_calls _ g x 2 wb.drew (H.out.below HBb.out.drew))
                    unfold GrV.val at HC0
                    dsimp only at HC0
                    rw [HN.out] at HC0
                    clear hx
                    go_upto_region 18 with fail
                    generalize hgbn : w.heap.size = gb at *
                    have HZ : Hid (∀ W, Below wb.heap.size wb W → W.cell? ⟨gb, 0, none⟩ = some (.int .i64 ((nc : Nat) : Int)) ∧ W.cell? ⟨gb, 1, none⟩ = some (.slice pe g.evs.length ce) ∧ W.cell? ⟨gb, 2, none⟩ = some (Vr) ∧ W.cell? ⟨gb, 3, none⟩ = some (.slice (some ⟨sc, oc, none⟩) g.co.length cc2) ∧ W.cell? ⟨gb, 4, none⟩ = some (Vm) ∧ W.cell? ⟨gb, 5, none⟩ = some (Va) ∧ W.cell? ⟨gb, 6, none⟩ = some (Vd) ∧ W.cell? ⟨gb, 7, none⟩ = some (Vt) ∧ W.cell? ⟨sl, ol + ii, none⟩ = some (.int .i64 x)) := fun W hW => ⟨(HGb.out.of_below hW).cell rfl, (HGb.out.of_below hW).cell rfl, (HGb.out.of_below hW).cell rfl, (HGb.out.of_below hW).cell rfl, (HGb.out.of_below hW).cell rfl, (HGb.out.of_below hW).cell rfl, (HGb.out.of_below hW).cell rfl, (HGb.out.of_below hW).cell rfl, (hW.cell (p := ⟨sl, ol + ii, none⟩) HSL.out).trans z9⟩
                    clear z9
                    go_cut [94] (fun v94 wx => v94 = .bool (!(coAt g ((c : Nat) : Int) x)) ∧ Hid (Below wb.heap.size wb wx))
                    case rest =>
                      obtain ⟨rfl, HX⟩ := hcut
                      generalize hwz : wc = wz at *
                      clear hwz
                      have HXW : Hid (Below gb w wz) := HBb.out.trans (HX.out.mono (by rw [← hgbn]; exact HBb.out.size))
                      have HWZ : Hid (Below W0.heap.size W0 wz) := HW2.out.trans (HX.out.mono HW2.out.size)
                      cases hok : coAt g ((c : Nat) : Int) x
                      · obtain rfl := HBAD.out (HNOT.out (fun h => by
                          have := coAt_iff.2 (h.1 ii x HXX.out)
                          rw [hok] at this
                          cases this))
                        clear hok
                        go_wp2_with fail
                        go_ret
                        exact ⟨rfl, HXW.out⟩
                      · have HOK := hid_of hok
                        clear hok
                        go_wp2_with fail
                        go_loopg [8] ii (fun f v8 wr => ∃ j : Nat, v8 = .int .i64 ((j : Nat) : Int) ∧ j ≤ ii ∧ Hid (j + f = ii) ∧ Hid (∀ t, t < j → l[t]? ≠ some x) ∧ Hid (Below wz.heap.size wz wr))
                        case atStart => exact ⟨0, rfl, Nat.zero_le _, Nat.zero_add _, (fun t h => by omega), Below.refl _ _⟩
                        case round =>
                          obtain ⟨j, rfl, hj1, HKJ, HNO, HV⟩ := hrel
                          generalize hwy : wr = wy at *
                          clear hwy
                          have HYW : Hid (Below gb w wy) := HXW.out.trans (HV.out.mono (by rw [← hgbn]; exact HXW.out.size))
                          have P0 : (0 : Int) ≤ ((j : Nat) : Int) := by omega
                          by_cases hji : j < ii
                          · have P1 : ((j : Nat) : Int) < ((ii : Nat) : Int) := by omega
                            have P2 : ((j : Nat) : Int) < ((l.length : Nat) : Int) := by omega
                            obtain ⟨y, hy⟩ : ∃ y, l[j]? = some y := ⟨_, List.getElem?_eq_getElem (by omega)⟩
                            have z1 : wy.cell? ⟨sl, ol + j, none⟩ = some (.int .i64 y) := (HYW.out.cell (p := ⟨sl, ol + j, none⟩) hsl).trans (HCL3.out j y hy)
                            have z2 : wy.cell? ⟨sl, ol + ii, none⟩ = some (.int .i64 x) := (HYW.out.cell (p := ⟨sl, ol + ii, none⟩) hsl).trans (HCL3.out ii x HXX.out)
                            by_cases hxy : y = x
                            · have q5 : ((y : Int) == x) = true := by rw [beq_iff_eq]; exact hxy
                              obtain rfl := HBAD.out (HNOT.out (fun h => h.2 ii j x hji HXX.out (by rw [hy, hxy])))
                              clear hxy hy
                              go_wp2_with fail
                              go_quiet (fail)
                              go_wp2_with fail
                              go_ret
                              exact ⟨rfl, by rw [hgbn]; exact below_drewN HYW.out _⟩
                            · have q5 : ((y : Int) == x) = false := by rw [beq_eq_false_iff_ne]; exact hxy
                              have HNO2 : Hid (∀ t, t < j + 1 → l[t]? ≠ some x) := fun t ht => by
                                by_cases e : t = j
                                · rw [e, hy]; simpa using hxy
                                · exact HNO.out t (by omega)
                              clear hxy hy
                              go_wp2_with fail
                              go_quiet (fail)
                              go_wp2_with fail
                              go_roundg (ii - (j + 1))
                              case measure => have := HKJ.out; omega
                              case rel => exact ⟨j + 1, by go_num, by omega, by have := HKJ.out; rw [Hid]; omega, HNO2.out, below_drewN HV.out _⟩
                          · have P1 : ¬ (((j : Nat) : Int) < ((ii : Nat) : Int)) := by omega
                            have HUP2 : Hid (coUp g ((c : Nat) : Int) l (ii + 1)) := coUp_succ HUP.out HXX.out HOK.out (fun t ht => HNO.out t (by omega))
                            go_wp2_with fail
                            go_roundg (l.length - (ii + 1))
                            case measure => have := HKH.out; omega
                            case rel => exact ⟨ii + 1, by go_num, by omega, by have := HKH.out; rw [Hid]; omega, HUP2.out, HWZ.out.trans (HV.out.mono HWZ.out.size)⟩
                    case first =>
                    cases his : isB g.evs x [2]
                    · rw [his] at HC0
                      have HC := HC0
                      have HO : Hid (coAt g ((c : Nat) : Int) x = false) := by rw [Hid]; unfold coAt; rw [his]; rfl
                      clear HC0 his
                      refine wp_region_held_drew (S := (fun w' => w'.cell? ⟨gb, 0, none⟩ = some (.int .i64 ((nc : Nat) : Int)) ∧ w'.cell? ⟨gb, 1, none⟩ = some (.slice pe g.evs.length ce) ∧ w'.cell? ⟨gb, 2, none⟩ = some (Vr) ∧ w'.cell? ⟨gb, 3, none⟩ = some (.slice (some ⟨sc, oc, none⟩) g.co.length cc2) ∧ w'.cell? ⟨gb, 4, none⟩ = some (Vm) ∧ w'.cell? ⟨gb, 5, none⟩ = some (Va) ∧ w'.cell? ⟨gb, 6, none⟩ = some (Vd) ∧ w'.cell? ⟨gb, 7, none⟩ = some (Vt) ∧ w'.cell? ⟨sl, ol + ii, none⟩ = some (.int .i64 x))) (by kernel_rfl) (HZ.out _ (Below.refl _ _).drew) (fun hHeld => ?_)
                      refine tk 0 rfl ?_; simp only [zz]
                      refine tk 1 rfl ?_; simp only [zz]
                      refine tk 2 rfl ?_; simp only [zz]
                      refine tk 3 rfl ?_; simp only [zz]
                      refine tk 4 rfl ?_; simp only [zz]
                      refine wpAnyH_ready (rs := [5]) (by kernel_rfl) (by simp) ?_
                      refine AllReadyH.cons rfl (fun K hK => ?_) AllReadyH.nil
                      simp only [z1, z2, z3]
                      go_simp
                      refine HC.out.mono ?_
                      rintro e w5 ⟨rfl, hB5⟩
                      have hX5 : Below wb.heap.size wb w5 := ((Below.refl wb.heap.size wb).drew).trans hB5
                      refine hK.out _ _ (HZ.out w5 hX5) (fun hHeld => ?_)
                      clear hK K
                      try simp only [zz]
                      refine tk 6 rfl ?_; simp only [zz]
                      refine tk 7 rfl ?_; simp only [zz]
                      refine tu 8 rfl ?_; simp only [zz]
                      refine tu 9 rfl ?_; simp only [zz]
                      refine tu 10 rfl ?_; simp only [zz]
                      refine tu 11 rfl ?_; simp only [zz]
                      refine tu 12 rfl ?_; simp only [zz]
                      refine tu 13 rfl ?_; simp only [zz]
                      refine tu 14 rfl ?_; simp only [zz]
                      refine tu 15 rfl ?_; simp only [zz]
                      refine tu 16 rfl ?_; simp only [zz]
                      refine tu 17 rfl ?_; simp only [zz]
                      refine tu 18 rfl ?_; simp only [zz]
                      refine tk 19 rfl ?_; simp only [zz]
                      refine wpAnyH_done (by kernel_rfl) ?_ _
                      go_wp2_with fail
                      go_meet
                      exact ⟨by rw [HO.out]; rfl, hX5⟩
                    · rw [his] at HC0
                      have HC := HC0
                      obtain ⟨n, rfl, hn⟩ := isB_nat his
                      have N0 : (0 : Int) ≤ ((n : Nat) : Int) := by omega
                      have N1 : ((n : Nat) : Int) < ((g.evs.length : Nat) : Int) := by omega
                      obtain ⟨s, o, rfl, hat⟩ := HP.out (by omega)
                      have z0 := (hat.below (by rw [hgbn]; exact HBb.out)).c2 n _ (Gr.ev_at hn)
                      have hs := (hat.below (by rw [hgbn]; exact HBb.out)).lt
                      have HO5 : Hid (coAt g ((c : Nat) : Int) ((n : Nat) : Int) = decide ((g.ev n).l = ((c : Nat) : Int))) := by rw [Hid]; unfold coAt; rw [his, Int.toNat_natCast, Bool.true_and]
                      generalize (g.ev n).l = la at *
                      have HZ2 : Hid (∀ W, Below wb.heap.size wb W → W.cell? ⟨gb, 0, none⟩ = some (.int .i64 ((nc : Nat) : Int)) ∧ W.cell? ⟨gb, 1, none⟩ = some (.slice (some ⟨s, o, none⟩) g.evs.length ce) ∧ W.cell? ⟨gb, 2, none⟩ = some (Vr) ∧ W.cell? ⟨gb, 3, none⟩ = some (.slice (some ⟨sc, oc, none⟩) g.co.length cc2) ∧ W.cell? ⟨gb, 4, none⟩ = some (Vm) ∧ W.cell? ⟨gb, 5, none⟩ = some (Va) ∧ W.cell? ⟨gb, 6, none⟩ = some (Vd) ∧ W.cell? ⟨gb, 7, none⟩ = some (Vt) ∧ W.cell? ⟨sl, ol + ii, none⟩ = some (.int .i64 ((n : Nat) : Int)) ∧ W.cell? ⟨s, o + n * 5 + 2, none⟩ = some (.int .i64 la)) := fun W hW => by
                        obtain ⟨a0, a1, a2, a3, a4, a5, a6, a7, a8⟩ := HZ.out W hW
                        exact ⟨a0, a1, a2, a3, a4, a5, a6, a7, a8, (hW.cell (p := ⟨s, o + n * 5 + 2, none⟩) hs).trans z0⟩
                      clear HC0 his z0 hat
                      by_cases hll : la = ((c : Nat) : Int)
                      · have q3 : ((la : Int) != ((c : Nat) : Int)) = false := by simp [hll]
                        have HO : Hid (coAt g ((c : Nat) : Int) ((n : Nat) : Int) = true) := by rw [Hid, HO5.out, decide_eq_true hll]
                        clear hll
                        refine wp_region_held_drew (S := (fun w' => w'.cell? ⟨gb, 0, none⟩ = some (.int .i64 ((nc : Nat) : Int)) ∧ w'.cell? ⟨gb, 1, none⟩ = some (.slice (some ⟨s, o, none⟩) g.evs.length ce) ∧ w'.cell? ⟨gb, 2, none⟩ = some (Vr) ∧ w'.cell? ⟨gb, 3, none⟩ = some (.slice (some ⟨sc, oc, none⟩) g.co.length cc2) ∧ w'.cell? ⟨gb, 4, none⟩ = some (Vm) ∧ w'.cell? ⟨gb, 5, none⟩ = some (Va) ∧ w'.cell? ⟨gb, 6, none⟩ = some (Vd) ∧ w'.cell? ⟨gb, 7, none⟩ = some (Vt) ∧ w'.cell? ⟨sl, ol + ii, none⟩ = some (.int .i64 ((n : Nat) : Int)) ∧ w'.cell? ⟨s, o + n * 5 + 2, none⟩ = some (.int .i64 la))) (by kernel_rfl) (HZ2.out _ (Below.refl _ _).drew) (fun hHeld => ?_)
                        refine tk 0 rfl ?_; simp only [zz]
                        refine tk 1 rfl ?_; simp only [zz]
                        refine tk 2 rfl ?_; simp only [zz]
                        refine tk 3 rfl ?_; simp only [zz]
                        refine tk 4 rfl ?_; simp only [zz]
                        refine wpAnyH_ready (rs := [5]) (by kernel_rfl) (by simp) ?_
                        refine AllReadyH.cons rfl (fun K hK => ?_) AllReadyH.nil
                        simp only [z1, z2, z3]
                        go_simp
                        refine HC.out.mono ?_
                        rintro e w5 ⟨rfl, hB5⟩
                        have hX5 : Below wb.heap.size wb w5 := ((Below.refl wb.heap.size wb).drew).trans hB5
                        refine hK.out _ _ (HZ2.out w5 hX5) (fun hHeld => ?_)
                        clear hK K
                        try simp only [zz]
                        refine tk 6 rfl ?_; simp only [zz]
                        refine tk 7 rfl ?_; simp only [zz]
                        refine tk 8 rfl ?_; simp only [zz]
                        refine tk 9 rfl ?_; simp only [zz]
                        refine tk 10 rfl ?_; simp only [zz]
                        refine tk 11 rfl ?_; simp only [zz]
                        refine tk 12 rfl ?_; simp only [zz]
                        refine tk 13 rfl ?_; simp only [zz]
                        refine tk 14 rfl ?_; simp only [zz]
                        refine tk 15 rfl ?_; simp only [zz]
                        refine tk 16 rfl ?_; simp only [zz]
                        refine tk 17 rfl ?_; simp only [zz]
                        refine tk 18 rfl ?_; simp only [zz]
                        refine tk 19 rfl ?_; simp only [zz]
                        refine wpAnyH_done (by kernel_rfl) ?_ _
                        go_wp2_with fail
                        go_meet
                        exact ⟨by rw [HO.out]; rfl, hX5⟩
                      · have q3 : ((la : Int) != ((c : Nat) : Int)) = true := by simp [hll]
                        have HO : Hid (coAt g ((c : Nat) : Int) ((n : Nat) : Int) = false) := by rw [Hid, HO5.out, decide_eq_false hll]
                        clear hll
                        refine wp_region_held_drew (S := (fun w' => w'.cell? ⟨gb, 0, none⟩ = some (.int .i64 ((nc : Nat) : Int)) ∧ w'.cell? ⟨gb, 1, none⟩ = some (.slice (some ⟨s, o, none⟩) g.evs.length ce) ∧ w'.cell? ⟨gb, 2, none⟩ = some (Vr) ∧ w'.cell? ⟨gb, 3, none⟩ = some (.slice (some ⟨sc, oc, none⟩) g.co.length cc2) ∧ w'.cell? ⟨gb, 4, none⟩ = some (Vm) ∧ w'.cell? ⟨gb, 5, none⟩ = some (Va) ∧ w'.cell? ⟨gb, 6, none⟩ = some (Vd) ∧ w'.cell? ⟨gb, 7, none⟩ = some (Vt) ∧ w'.cell? ⟨sl, ol + ii, none⟩ = some (.int .i64 ((n : Nat) : Int)) ∧ w'.cell? ⟨s, o + n * 5 + 2, none⟩ = some (.int .i64 la))) (by kernel_rfl) (HZ2.out _ (Below.refl _ _).drew) (fun hHeld => ?_)
                        refine tk 0 rfl ?_; simp only [zz]
                        refine tk 1 rfl ?_; simp only [zz]
                        refine tk 2 rfl ?_; simp only [zz]
                        refine tk 3 rfl ?_; simp only [zz]
                        refine tk 4 rfl ?_; simp only [zz]
                        refine wpAnyH_ready (rs := [5]) (by kernel_rfl) (by simp) ?_
                        refine AllReadyH.cons rfl (fun K hK => ?_) AllReadyH.nil
                        simp only [z1, z2, z3]
                        go_simp
                        refine HC.out.mono ?_
                        rintro e w5 ⟨rfl, hB5⟩
                        have hX5 : Below wb.heap.size wb w5 := ((Below.refl wb.heap.size wb).drew).trans hB5
                        refine hK.out _ _ (HZ2.out w5 hX5) (fun hHeld => ?_)
                        clear hK K
                        try simp only [zz]
                        refine tk 6 rfl ?_; simp only [zz]
                        refine tk 7 rfl ?_; simp only [zz]
                        refine tk 8 rfl ?_; simp only [zz]
                        refine tk 9 rfl ?_; simp only [zz]
                        refine tk 10 rfl ?_; simp only [zz]
                        refine tk 11 rfl ?_; simp only [zz]
                        refine tk 12 rfl ?_; simp only [zz]
                        refine tk 13 rfl ?_; simp only [zz]
                        refine tk 14 rfl ?_; simp only [zz]
                        refine tk 15 rfl ?_; simp only [zz]
                        refine tk 16 rfl ?_; simp only [zz]
                        refine tk 17 rfl ?_; simp only [zz]
                        refine tk 18 rfl ?_; simp only [zz]
                        refine tk 19 rfl ?_; simp only [zz]
                        refine wpAnyH_done (by kernel_rfl) ?_ _
                        go_wp2_with fail
                        go_meet
                        exact ⟨by rw [HO.out]; rfl, hX5⟩
                  · obtain rfl : ii = l.length := by omega
                    have HALL2 := hid_of (HOKN.out (HORD.out (coUp_all HUP.out)))
                    go_wp2_with fail
                    go_roundg (nc - (c + 1))
                    case measure => have := HKF.out; omega
                    case rel => exact ⟨c + 1, by go_num, by omega, by omega, by have := HKF.out; rw [Hid]; omega, HALL2.out, HW2.out⟩
              · have q4 : (((l.length : Nat) : Int) != (((wrs g ((c : Nat) : Int) g.evs.length).length : Nat) : Int)) = true := by rw [bne_iff_ne]; omega
                obtain rfl := HBAD.out (by
                  cases e : isOrdB l ((c : Nat) : Int) (wrs g ((c : Nat) : Int) g.evs.length)
                  · rfl
                  · exact absurd (ord_parts e).1 hll)
                clear hll
                go_wp2_with fail
                go_ret
                exact ⟨rfl, HBW.out⟩
        · have q1 : ((xf : Int) != ((c : Nat) : Int)) = true := by rw [bne_iff_ne]; exact hfc
          obtain rfl := HBAD.out (by
            cases e : isOrdB l ((c : Nat) : Int) (wrs g ((c : Nat) : Int) g.evs.length)
            · rfl
            · exact absurd (HXF.out.symm.trans (ord_parts e).2.1) hfc)
          clear hfc
          go_wp2_with fail
          go_ret
          exact ⟨rfl, HBW.out⟩
    · by_cases hcn2 : c < nc
      · obtain rfl : c = g.co.length := by omega
        obtain rfl : res = ((g.co.length : Nat) : Int) := by
          rw [← HR.out]
          exact bad5_hit HN.out hcn2 HALL.out (by unfold bad5c; rw [decide_eq_true (Nat.le_refl _)]; rfl)
        have d1 : ((g.co.length : Nat) : Int) < ((nc : Nat) : Int) := by omega
        go_wp2_with fail
        go_ret
        exact ⟨rfl, HBW.out⟩
      · obtain rfl : c = nc := by omega
        have e5 := HR.out.symm.trans (bad5_all HN.out HALL.out)
        by_cases hle : (g.co.length : Int) ≤ (c : Int)
        · rw [if_pos hle] at e5
          subst e5
          have d1 : ¬ (((g.co.length : Nat) : Int) < ((c : Nat) : Int)) := by omega
          go_wp2_with fail
          go_ret
          exact ⟨rfl, HBW.out⟩
        · rw [if_neg hle] at e5
          subst e5
          have d1 : ¬ (((g.co.length : Nat) : Int) < ((c : Nat) : Int)) := by omega
          have d2 : ((c : Nat) : Int) < ((g.co.length : Nat) : Int) := by omega
          go_wp2_with fail
          go_ret
          exact ⟨rfl, HBW.out⟩
end Go.Proofs.YthiijcappjaagaaGreatDoor
