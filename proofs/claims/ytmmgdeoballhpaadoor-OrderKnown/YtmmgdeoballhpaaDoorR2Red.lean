/- The contract of the reference's Reduction; sextantlaw2.lists at two lists that are alike. -/
import Derived.Test.YtmmgdeoballhpaaDoorJ20
import Derived.Test.YtmmgdeoballhpaaDoorJ14
namespace Go.Proofs.YtmmgdeoballhpaaDoor
open Go.RowKit Go.Shelf Sx

/-- What the reference's Reduction has. -/
def redF (n : Nat) (F : Nat → Nat → Bool) : Nat → Nat → Bool := fun p q => extF n (plusFn F n) p q && !extF n (cmpF (extF n (plusFn F n)) (extF n (plusFn F n)) n) p q
set_option maxRecDepth 100000 in
set_option maxHeartbeats 4000000 in
theorem r2red_no (lo n : Nat) (hn : n ≤ 256) (x : Option Addr) (y z : Nat) (rb : Nat → Nat) (F : Nat → Nat → Bool) (w : World) (h : RefM lo w (.slice x y z) n n rb F) (HI : Hid (irrF n (plusFn F n) = false)) :
    Calls Tryd.prog 29 #[.agg #[.int .i64 ((n : Nat) : Int), .slice x y z]] w fun e w' => ∃ xr yr zr, e = .returned (.tuple #[.agg #[.int .i64 0, .slice xr yr zr], .int .i64 3]) ∧ Below w.heap.size w w' := by
  have hB0 : Below w.heap.size w ((w.alloc (.cells #[.int .i64 ((n : Nat) : Int), .slice x y z] 46)).alloc (.cells #[.int .i64 0, .slice none 0 0] 46)) := ((Below.refl _ w).alloc (Nat.le_refl _) _).alloc (by simp) _
  have hb0 := (Blk.new w 46 #[.int .i64 ((n : Nat) : Int), .slice x y z]).alloc (.cells #[.int .i64 0, .slice none 0 0] 46)
  have hr0 := Blk.new2 w (.cells #[.int .i64 ((n : Nat) : Int), .slice x y z] 46) 46 #[.int .i64 0, .slice none 0 0]
  have hpl := refPlus_calls lo n hn x y z rb F _ ((h.alloc (.cells #[.int .i64 ((n : Nat) : Int), .slice x y z] 46)).alloc (.cells #[.int .i64 0, .slice none 0 0] 46))
  go_enter Tryd.func29, Tryd.ntmps29
  have c0 := hb0.cell (j := 0) rfl
  have c1 := hb0.cell (j := 1) rfl
  go_wp2_with fail
  refine hpl.mono ?_
  rintro e w1 ⟨M1, rb1, rfl, hM1, hB1⟩
  obtain ⟨x1, y1, z1, rfl⟩ := hM1.slice
  have hW1 := below_step hB0 hB0.size hB1
  have hr1 := (hr0.of_below hB1).alloc (.cells #[.int .i64 ((n : Nat) : Int), .slice x1 y1 z1] 46)
  have hbx := Blk.new w1 46 #[.int .i64 ((n : Nat) : Int), .slice x1 y1 z1]
  have hM1a := hM1.alloc (.cells #[.int .i64 ((n : Nat) : Int), .slice x1 y1 z1] 46)
  have hW1a := hW1.alloc hW1.size (.cells #[.int .i64 ((n : Nat) : Int), .slice x1 y1 z1] 46)
  have e0 := hbx.cell (j := 0) rfl
  have e1 := hbx.cell (j := 1) rfl
  clear hpl hb0 hr0 hB0 c0 c1 hM1 hB1 hW1
  go_wp2_with fail
  refine (refIrr_calls _ n hn x1 y1 z1 rb1 (plusFn F n) _ hM1a false HI).mono ?_
  rintro e w3 ⟨rfl, hB3⟩
  have hr3 := hr1.of_below hB3
  have hW3 := below_step hW1a hW1a.size hB3
  have hrn := refNew_calls 0 w3
  rw [show clampN 0 = 0 from rfl] at hrn
  have HRN := hid_of hrn
  clear hrn e0 e1 hbx hr1 hW1a hM1a hB3
  go_wp2_with fail
  refine HRN.out.mono ?_
  rintro e w4 ⟨M4, rb4, rfl, hM4, hB4⟩
  obtain ⟨x4, y4, z4, rfl⟩ := hM4.slice
  have hr4 := hr3.of_below hB4
  have d0 := hr4.cell (j := 0) rfl
  have d1 := hr4.cell (j := 1) rfl
  have f0 := hr4.frozen 0
  have f1 := hr4.frozen 1
  have hW4 := below_step hW3 hW3.size hB4
  clear HRN hr3 hM4 hB4 hW3
  go_wp2_with fail
  have hres := (hr4.set 0 (.int .i64 0)).set 1 (.slice x4 y4 z4)
  simp only [List.setIfInBounds_toArray, List.set_cons_zero, List.set_cons_succ] at hres
  (try simp only [Exit.inBlock, Exit.then])
  refine bodyPost_ret (ret_ref2 rfl rfl rfl hres) rfl ?_
  exact ⟨x4, y4, z4, rfl, (hW4.setCell (p := ⟨w.heap.size + 1, 0, none⟩) (by simp) _).setCell (p := ⟨w.heap.size + 1, 1, none⟩) (by simp) _⟩
set_option maxRecDepth 100000 in
set_option maxHeartbeats 4000000 in
theorem r2red_yes (lo n : Nat) (hn : n ≤ 256) (x : Option Addr) (y z : Nat) (rb : Nat → Nat) (F : Nat → Nat → Bool) (w : World) (h : RefM lo w (.slice x y z) n n rb F) (HI : Hid (irrF n (plusFn F n) = true)) :
    Calls Tryd.prog 29 #[.agg #[.int .i64 ((n : Nat) : Int), .slice x y z]] w fun e w' => ∃ M rb', e = .returned (.tuple #[.agg #[.int .i64 ((n : Nat) : Int), M], .int .i64 0]) ∧ RefM (w.heap.size + 2) w' M n n rb' (redF n F) ∧ Below w.heap.size w w' := by
  have HN : Hid (n = max n n) := by show _ = _; omega
  have hB0 : Below w.heap.size w ((w.alloc (.cells #[.int .i64 ((n : Nat) : Int), .slice x y z] 46)).alloc (.cells #[.int .i64 0, .slice none 0 0] 46)) := ((Below.refl _ w).alloc (Nat.le_refl _) _).alloc (by simp) _
  have hb0 := (Blk.new w 46 #[.int .i64 ((n : Nat) : Int), .slice x y z]).alloc (.cells #[.int .i64 0, .slice none 0 0] 46)
  have hr0 := Blk.new2 w (.cells #[.int .i64 ((n : Nat) : Int), .slice x y z] 46) 46 #[.int .i64 0, .slice none 0 0]
  have hpl := refPlus_calls lo n hn x y z rb F _ ((h.alloc (.cells #[.int .i64 ((n : Nat) : Int), .slice x y z] 46)).alloc (.cells #[.int .i64 0, .slice none 0 0] 46))
  go_enter Tryd.func29, Tryd.ntmps29
  have c0 := hb0.cell (j := 0) rfl
  have c1 := hb0.cell (j := 1) rfl
  go_wp2_with fail
  refine hpl.mono ?_
  rintro e w1 ⟨M1, rb1, rfl, hM1, hB1⟩
  obtain ⟨x1, y1, z1, rfl⟩ := hM1.slice
  have hW1 := below_step hB0 hB0.size hB1
  have hr1 := (hr0.of_below hB1).alloc (.cells #[.int .i64 ((n : Nat) : Int), .slice x1 y1 z1] 46)
  have hbx := Blk.new w1 46 #[.int .i64 ((n : Nat) : Int), .slice x1 y1 z1]
  have hM1a := hM1.alloc (.cells #[.int .i64 ((n : Nat) : Int), .slice x1 y1 z1] 46)
  have hW1a := hW1.alloc hW1.size (.cells #[.int .i64 ((n : Nat) : Int), .slice x1 y1 z1] 46)
  have e0 := hbx.cell (j := 0) rfl
  have e1 := hbx.cell (j := 1) rfl
  have hcb : w.heap.size + 2 ≤ w1.heap.size := by have := hB1.size; simp at this; omega
  clear hpl hb0 hr0 hB0 c0 c1 hM1 hB1 hW1
  go_wp2_with fail
  refine (refIrr_calls _ n hn x1 y1 z1 rb1 (plusFn F n) _ hM1a true HI).mono ?_
  rintro e w3 ⟨rfl, hB3⟩
  have hr3 := hr1.of_below hB3
  have hb3 := hbx.of_below hB3
  have hM3 := (hM1a.mono (Nat.zero_le _)).below hB3
  have hW3 := below_step hW1a hW1a.size hB3
  have g0 := hb3.cell (j := 0) rfl
  have g1 := hb3.cell (j := 1) rfl
  have hsz : w.heap.size + 2 ≤ w3.heap.size := by have := hr3.lt; omega
  clear e0 e1 hbx hr1 hW1a hM1a hB3
  generalize w1.heap.size = cb at *
  have HM3 := hid_of hM3
  have HR3 := hid_of hr3
  have HB3 := hid_of hb3
  clear hM3 hr3 hb3
  go_wp2_with fail
  go_region_held3 (fun W => W.cell? ⟨cb, 0, none⟩ = some (.int .i64 ((n : Nat) : Int)) ∧ W.cell? ⟨cb, 1, none⟩ = some (.slice x1 y1 z1)) (first | assumption | exact ⟨g0, g1⟩) (first | (go_at_call 58; refine (refComp_calls 0 0 n n n hn hn HN x1 y1 z1 rb1 (plusFn F n) x1 y1 z1 rb1 (plusFn F n) _ (HM3.out.below (Below.refl _ _).drew) (HM3.out.below (Below.refl _ _).drew)).mono ?_; rintro e w4 ⟨M4, rb4, rfl, hM4, hB4⟩; obtain ⟨x4, y4, z4, rfl⟩ := hM4.slice; have hX4 : Below w3.heap.size w3 w4 := below_of_drew' hB4; have HX4 := hid_of hX4; have K4 : w4.cell? ⟨cb, 0, none⟩ = some (.int .i64 ((n : Nat) : Int)) ∧ w4.cell? ⟨cb, 1, none⟩ = some (.slice x1 y1 z1) := ⟨(HB3.out.of_below hX4).cell rfl, (HB3.out.of_below hX4).cell rfl⟩) | (go_at_call 57; refine (refMinus_calls 0 _ n n n hn hn HN x1 y1 z1 rb1 (plusFn F n) x4 y4 z4 rb4 _ _ (HM3.out.below HX4.out) hM4).mono ?_; rintro e w5 ⟨M5, rb5, rfl, hM5, hB5⟩; obtain ⟨x5, y5, z5, rfl⟩ := hM5.slice; have hX5 := below_step HX4.out HX4.out.size hB5; have hr5 := HR3.out.of_below hX5; have d0 := hr5.cell (j := 0) rfl; have d1 := hr5.cell (j := 1) rfl; have f0 := hr5.frozen 0; have f1 := hr5.frozen 1; have K5 : w5.cell? ⟨cb, 0, none⟩ = some (.int .i64 ((n : Nat) : Int)) ∧ w5.cell? ⟨cb, 1, none⟩ = some (.slice x1 y1 z1) := ⟨(HB3.out.of_below hX5).cell rfl, (HB3.out.of_below hX5).cell rfl⟩; have hb6 := ((HB3.out.of_below hX5).setOther (a := ⟨w.heap.size + 1, 0, none⟩) (by show cb ≠ w.heap.size + 1; omega) (.int .i64 ((n : Nat) : Int))).setOther (a := ⟨w.heap.size + 1, 1, none⟩) (by show cb ≠ w.heap.size + 1; omega) (.slice x5 y5 z5); have K6 : ((w5.setCell ⟨w.heap.size + 1, 0, none⟩ (.int .i64 ((n : Nat) : Int))).setCell ⟨w.heap.size + 1, 1, none⟩ (.slice x5 y5 z5)).cell? ⟨cb, 0, none⟩ = some (.int .i64 ((n : Nat) : Int)) ∧ ((w5.setCell ⟨w.heap.size + 1, 0, none⟩ (.int .i64 ((n : Nat) : Int))).setCell ⟨w.heap.size + 1, 1, none⟩ (.slice x5 y5 z5)).cell? ⟨cb, 1, none⟩ = some (.slice x1 y1 z1) := ⟨hb6.cell rfl, hb6.cell rfl⟩))
  have hW5 := below_step hW3 hW3.size hX5
  have hsz4 : w.heap.size + 2 ≤ w4.heap.size := Nat.le_trans hsz HX4.out.size
  have hres := (hr5.set 0 (.int .i64 ((n : Nat) : Int))).set 1 (.slice x5 y5 z5)
  simp only [List.setIfInBounds_toArray, List.set_cons_zero, List.set_cons_succ] at hres
  have HRES := hid_of hres
  have hM6 : RefM (w.heap.size + 2) ((w5.setCell ⟨w.heap.size + 1, 0, none⟩ (.int .i64 ((n : Nat) : Int))).setCell ⟨w.heap.size + 1, 1, none⟩ (.slice x5 y5 z5)) (.slice x5 y5 z5) n n rb5 (redF n F) := by
    refine (hM5.mono hsz4).below' (fun k hk _ => ?_)
    rw [Below.heap_setCell _ _ _ _ (by show k ≠ w.heap.size + 1; omega), Below.heap_setCell _ _ _ _ (by show k ≠ w.heap.size + 1; omega)]
  have HM6 := hid_of hM6
  clear hM6 hres hM5 hM4 K4 K5 K6 d0 d1 f0 f1
  go_wp2_with fail
  (try simp only [Exit.inBlock, Exit.then])
  refine bodyPost_ret (ret_ref2 rfl rfl rfl HRES.out) rfl ?_
  have hB9 := (hW5.setCell (p := ⟨w.heap.size + 1, 0, none⟩) (by simp) (.int .i64 ((n : Nat) : Int))).setCell (p := ⟨w.heap.size + 1, 1, none⟩) (by simp) (.slice x5 y5 z5)
  first | exact ⟨_, rb5, rfl, HM6.out, hB9⟩ | exact ⟨_, rfl, ⟨rb5, HM6.out⟩, hB9⟩
set_option maxRecDepth 100000 in
set_option maxHeartbeats 2000000 in
/-- Two lists of lists that are alike. -/
theorem lists2_same (v1 v2 : Value) (bs : List (List Nat)) (w : World) (h1 : BlocksR w v1 bs) (h2 : BlocksR w v2 bs) (hm : bs.length ≤ 65536) (hm2 : ∀ bl ∈ bs, bl.length ≤ 65536) :
    Calls Tryd.prog 13 #[v1, v2] w fun e w' => e = .returned (.bool true) ∧ Below w.heap.size w w' := by
  have h1' := hid_of h1
  have h2' := hid_of h2
  obtain ⟨p1, c1, rfl, vs1, hl1, hv1, hr1⟩ := h1
  obtain ⟨p2, c2, rfl, vs2, hl2, hv2, hr2⟩ := h2
  have hn : ((bs.length : Int) != (bs.length : Int)) = false := by simp
  have HV1 := hid_of hv1
  have HV2 := hid_of hv2
  have HR1 := hid_of hr1
  have HR2 := hid_of hr2
  have HM2 := hid_of hm2
  have HL1 := hid_of hl1
  have HL2 := hid_of hl2
  clear hv1 hv2 hr1 hr2 hm2 hl1 hl2 h1' h2'
  go_enter Tryd.func13, Tryd.ntmps13
  go_wp2_with fail
  go_loopw [5] (fun i wr => ∃ k : Nat, k ≤ bs.length ∧ i = .int .i64 k ∧ Below w.heap.size w wr) (fun i _ => bs.length - (intOf i).toNat)
  case atStart => exact ⟨0, by omega, rfl, Below.refl _ _⟩
  case round =>
    obtain ⟨k, hk, rfl, hB⟩ := hrel
    by_cases hlt : k < bs.length
    · obtain ⟨s1, rfl, a1, a2⟩ := HV1.out (by omega)
      obtain ⟨s2, rfl, b1, b2⟩ := HV2.out (by omega)
      obtain ⟨x, hx⟩ : ∃ x, vs1[k]? = some x := ⟨_, List.getElem?_eq_getElem (by rw [HL1.out]; exact hlt)⟩
      obtain ⟨y, hy⟩ : ∃ x, vs2[k]? = some x := ⟨_, List.getElem?_eq_getElem (by rw [HL2.out]; exact hlt)⟩
      obtain ⟨bl, hbl⟩ : ∃ bl, bs[k]? = some bl := ⟨_, List.getElem?_eq_getElem hlt⟩
      have x0 := (hB.cell (p := ⟨s1, k, none⟩) a1).trans (a2 k x hx)
      have y0 := (hB.cell (p := ⟨s2, k, none⟩) b1).trans (b2 k y hy)
      have hbm := HM2.out bl (List.mem_of_getElem? hbl)
      have hix := HR1.out k x bl hx hbl
      have hiy := HR2.out k y bl hy hbl
      have hcall : ∀ W, Below w.heap.size w W → Calls Tryd.prog 20 #[x, y] W fun e w' => e = .returned (.bool true) ∧ Below W.heap.size W w' := fun W hW => by
        have := ints2_calls x y (toI bl) (toI bl) W (hix.below hW) (hiy.below hW) (by rw [toI_length]; omega)
        rw [show (toI bl == toI bl) = true by simp] at this
        exact this
      have HCL := hid_of hcall
      obtain ⟨xa, xc, rfl⟩ := hix.len
      obtain ⟨ya, yc, rfl⟩ := hiy.len
      have k0 : (0 : Int) ≤ ((k : Nat) : Int) := by omega
      have k1 : ((k : Nat) : Int) < ((bs.length : Nat) : Int) := by omega
      have HBW := hid_of hB
      clear hx hy hbl a2 b2 hix hiy hcall hbm
      generalize (toI bl).length = ll at *
      go_wp2_with fail
      go_region_held3 (fun W => W.cell? ⟨s1, k, none⟩ = some (.slice xa ll xc) ∧ W.cell? ⟨s2, k, none⟩ = some (.slice ya ll yc)) (first | assumption | exact ⟨x0, y0⟩) (first | (go_at_call 20; refine (HCL.out _ HBW.out.drew).mono ?_; rintro e w4 ⟨rfl, hB4⟩; have hX4 : Below w.heap.size w w4 := below_step HBW.out HBW.out.size (below_of_drew' hB4); have K4 : w4.cell? ⟨s1, k, none⟩ = some (.slice xa ll xc) ∧ w4.cell? ⟨s2, k, none⟩ = some (.slice ya ll yc) := ⟨(below_of_drew' hB4).cell (p := ⟨s1, k, none⟩) (World.block_lt_of_cell? _ _ x0) |>.trans x0, (below_of_drew' hB4).cell (p := ⟨s2, k, none⟩) (World.block_lt_of_cell? _ _ y0) |>.trans y0⟩))
      go_wp2_with fail
      refine ⟨⟨k + 1, by omega, by go_num, hX4⟩, by simp [intOf]; omega⟩
    · obtain rfl : k = bs.length := by omega
      go_wp2_with fail
      go_ret
      exact ⟨rfl, hB⟩
end Go.Proofs.YtmmgdeoballhpaaDoor
