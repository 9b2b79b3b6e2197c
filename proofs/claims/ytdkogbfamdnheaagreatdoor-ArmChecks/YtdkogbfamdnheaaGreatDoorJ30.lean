import Derived.Test.YtdkogbfamdnheaaGreatDoorJ22
import Derived.Test.YtdkogbfamdnheaaGreatDoorJ29
namespace Go.Proofs.YtdkogbfamdnheaaGreatDoor
open Go.RowKit Go.Shelf Sx
set_option maxRecDepth 100000
set_option maxHeartbeats 16000000
set_option linter.unusedSimpArgs false
set_option linter.unusedVariables false
def RsA (w : World) (n : Nat) (v : Value) (Ls : List (List Nat)) : Prop := ∃ s c, v = .slice (some ⟨s, 0, none⟩) Ls.length c ∧ s < w.heap.size ∧ ∀ (i : Nat) (L : List Nat), Ls[i]? = some L →
 ∃ x y z, w.cell? ⟨s, i * 2, none⟩ = some (.int .i64 ((n : Nat) : Int)) ∧ w.cell? ⟨s, i * 2 + 1, none⟩ = some (.slice x y z) ∧ RT w n (.agg #[.int .i64 ((n : Nat) : Int), .slice x y z]) L
theorem RsA.below {w w' : World} {n : Nat} {v : Value} {Ls : List (List Nat)} (h : RsA w n v Ls) (hb : Below w.heap.size w w') : RsA w' n v Ls := by
 obtain ⟨s, c, e, h1, h2⟩ := h
 refine ⟨s, c, e, Nat.lt_of_lt_of_le h1 hb.size, fun i L hL => ?_⟩
 obtain ⟨x, y, z, c0, c1, hr⟩ := h2 i L hL
 exact ⟨x, y, z, (hb.cell (p := ⟨s, i * 2, none⟩) h1).trans c0, (hb.cell (p := ⟨s, i * 2 + 1, none⟩) h1).trans c1, hr.below hb⟩
theorem RefM.touch {lo b : Nat} {w w' : World} {M : Value} {k n : Nat} {rb : Nat → Nat} {F : Nat → Nat → Bool} {cs : Array Value} (h : RefM lo w M k n rb F) (hb : Blk w b 51 cs) (ht : Touch b w w') : RefM lo w' M k n rb F := by
 refine ⟨?_, fun p hp => ⟨(h.row p hp).1, (h.row p hp).2.touch ht (Qa2 (h.row p hp).2 hb dW)⟩, h.apart, h.inj⟩
 obtain ⟨h1, h2⟩ := h.own
 refine ⟨h1, ?_⟩
 rcases h2 with h2 | ⟨g, cap, cur, e1, e2, e3, e4⟩
 ·exact .inl h2
 ·have hk : Blk w g 65 cur := e3
  exact .inr ⟨g, cap, cur, e1, e2, hk.touch ht (Qa2 hk hb dW), e4⟩
theorem RT.touch {b : Nat} {w w' : World} {n : Nat} {v : Value} {A : List Nat} {cs : Array Value} (h : RT w n v A) (hb : Blk w b 51 cs) (ht : Touch b w w') : RT w' n v A := by
 obtain ⟨x, y, z, rb, F, e, h1, h2⟩ := h
 exact ⟨x, y, z, rb, F, e, h1.touch hb ht, h2⟩
theorem RT.below_to {w w' : World} {n : Nat} {v : Value} {A : List Nat} (h : RT w n v A) (hb : Below w.heap.size w w') : RT w' n v A := h.below hb
structure SqAt (w wr : World) (n : Nat) (x : Option Addr) (y z : Nat) (L : List Nat) : Prop where
 low : Below w.heap.size w wr
 res : Blk wr w.heap.size 51 #[.int .i64 0, .slice none 0 0]
 box : Blk wr (w.heap.size + 1) 51 #[.int .i64 ((n : Nat) : Int), .slice x y z]
 rel : RT wr n (.agg #[.int .i64 ((n : Nat) : Int), .slice x y z]) L
theorem SqAt.drew {w wr : World} {n : Nat} {x : Option Addr} {y z : Nat} {L : List Nat} (h : SqAt w wr n x y z L) : SqAt w wr.drew n x y z L := ⟨h.low.drew, h.res.drew, h.box.drew, h.rel.below bW.drew⟩
theorem QEa {A B : List Nat} {l : List (List Nat)} {k : Nat} (h : l[k]? = some B) : (l.take (k + 1)).foldl Qaw A = Qaw ((l.take k).foldl Qaw A) B := by
 rw [List.take_add_one, h, List.foldl_append]
 rfl
theorem Qrx (n : Nat) (hn : n ≤ 256) (A : List Nat) (Ls : List (List Nat)) (hL : Ls.length ≤ 64) (v : Value) (w : World) (h : RsA w n v (A :: Ls)) :
  Calls Tryz.prog 55 #[v] w (Qg2 n w (Ls.foldl Qaw A)) := by
 obtain ⟨s, c, rfl, hs, hat⟩ := h
 obtain ⟨x0, y0, z0, k0, k1, hr0⟩ := hat 0 A rfl
 rw [Nat.zero_mul] at k0
 rw [Nat.zero_mul, Nat.zero_add] at k1
 have HA := Qa hat
 have HR := Qa hr0
 obtain ⟨m, hm⟩ : ∃ m, (A :: Ls).length = m := ⟨_, rfl⟩
 rw [hm]
 have HM : Hid (m = Ls.length + 1) := hm.symm
 have hl0 : (0 : Int) < (m : Int) := by have := HM.out; omega
 clear hat hr0 hm
 go_enter Tryz.func55, Tryz.ntmps55
 go_wp2_with fail
 have hB0 : Below w.heap.size w ((w.alloc (.cells #[.int .i64 0, .slice none 0 0] 51)).alloc (.cells #[.int .i64 (n : Int), .slice x0 y0 z0] 51)) := ((Below.refl _ w).alloc nW _).alloc sW _
 have HS : Hid (SqAt w ((w.alloc (.cells #[.int .i64 0, .slice none 0 0] 51)).alloc (.cells #[.int .i64 (n : Int), .slice x0 y0 z0] 51)) n x0 y0 z0 A) :=
  ⟨hB0, (Blk.new w _ _).alloc _, Blk.new2 w _ _ _, HR.out.below hB0⟩
 generalize (w.alloc (.cells #[.int .i64 0, .slice none 0 0] 51)).alloc (.cells #[.int .i64 ((n : Nat) : Int), .slice x0 y0 z0] 51) = W0 at *
 clear hB0 HR k0 k1 hl0
 go_loopg [4] Ls.length (fun f i wr => ∃ (j k : Nat) (x : Option Addr) (y z : Nat), i = .int .i64 ((j : Nat) : Int) ∧ Hid (j = k + 1) ∧ Hid (k ≤ Ls.length) ∧ Hid (k + f = Ls.length) ∧ Hid (SqAt w wr n x y z ((Ls.take k).foldl Qaw A)))
 case atStart => exact ⟨1, 0, x0, y0, z0, rfl, rfl, Nat.zero_le _, Nat.zero_add _, HS.out⟩
 case round =>
  clear HS
  obtain ⟨j, k, x, y, z, rfl, HJ, HK, HKF, HS⟩ := hrel
  by_cases hlt : j < m
  ·have hkl : k < Ls.length := by have := HJ.out; have := HM.out; omega
   obtain ⟨B, hB⟩ : ∃ B, Ls[k]? = some B := ⟨_, List.getElem?_eq_getElem hkl⟩
   obtain ⟨xa, ya, za, e0, e1, hr⟩ := HA.out j B (by rw [HJ.out]; exact hB)
   have HL := Qa hkl
   clear hkl
   have d0 := (HS.out.low.cell (p := ⟨s, j * 2, none⟩) hs).trans e0
   have d1 := (HS.out.low.cell (p := ⟨s, j * 2 + 1, none⟩) hs).trans e1
   have HR1 := Qa (RT.below_to hr HS.out.low)
   have HT := Qa (QEa (A := A) hB)
   have K0 : (0 : Int) ≤ (j : Int) := by omega
   have K1 : (j : Int) < (m : Int) := by omega
   have hjb : j ≤ 64 := by have := HJ.out; have := HL.out; omega
   have HE0 := Qa e0
   have HE1 := Qa e1
   clear e0 e1 hr hB
   go_upto_region 5 with fail
   have HS1 := Qa HS.out.drew
   have HR2 := Qa (HR1.out.below bW.drew)
   clear HS HR1
   refine wp_region_held_drew (S := fun W => W.cell? ⟨s, j * 2, none⟩ = some (.int .i64 ((n : Nat) : Int)) ∧ W.cell? ⟨s, j * 2 + 1, none⟩ = some (.slice xa ya za)) kW ⟨d0, d1⟩ (fun hHeld => ?_)
   clear d0 d1
   generalize wr.drew = W1 at *
   have hlow := HS1.out.low
   refine tzW 1 rfl ?_
   refine tzW 2 rfl ?_
   refine tzW 3 rfl ?_
   refine tzW 4 rfl ?_
   have b0 : W1.cell? ⟨w.heap.size + 1, 0, none⟩ = some (.int .i64 (n : Int)) := HS1.out.box.cell rfl
   have b1 : W1.cell? ⟨w.heap.size + 1, 1, none⟩ = some (.slice x y z) := HS1.out.box.cell rfl
   refine wpAnyH_ready (rs := [0]) kW sW ?_
   refine rdy rfl (fun K hK => ?_) AllReadyH.nil
   simp only [z1, z2, z3]
   go_simp
   refine hK.out _ _ hHeld (fun hHeld => ?_)
   clear hK K b0 b1
   try simp only [zz]
   refine wpAnyH_ready (rs := [5]) kW sW ?_
   refine rdy rfl (fun K hK => ?_) AllReadyH.nil
   simp only [z1, z2, z3]
   go_simp
   refine (Qzm hn HS1.out.rel HR2.out).mono ?_
   rintro e W2 ⟨r2, rfl, hR2, hB2⟩
   obtain ⟨xb, yb, zb, rfl⟩ := hR2.form
   have hbx := HS1.out.box.of_below hB2
   have hrs := HS1.out.res.of_below hB2
   have hl2 := Qaa HS1.out.low HS1.out.low.size hB2
   have q0 := (hB2.cell (p := ⟨s, j * 2, none⟩) (block_lt_of_cell hHeld.1)).trans hHeld.1
   have q1 := (hB2.cell (p := ⟨s, j * 2 + 1, none⟩) (block_lt_of_cell hHeld.2)).trans hHeld.2
   refine hK.out _ _ ⟨q0, q1⟩ (fun hHeld => ?_)
   clear hK K
   try simp only [zz]
   have HR3 := Qa hR2
   have HB3 := Qa hbx
   have HQ3 := Qa hrs
   have HL3 := Qa hl2
   clear hR2 hbx hrs hl2 hB2 HS1 HR2
   have b0 : W2.cell? ⟨w.heap.size + 1, 0, none⟩ = some (.int .i64 (n : Int)) := HB3.out.cell rfl
   have b1 : W2.cell? ⟨w.heap.size + 1, 1, none⟩ = some (.slice x y z) := HB3.out.cell rfl
   have f0 := HB3.out.frozen 0
   have f1 := HB3.out.frozen 1
   refine wpAnyH_ready (rs := [6]) kW sW ?_
   refine rdy rfl (fun K hK => ?_) AllReadyH.nil
   simp only [z1, z2, z3]
   go_simp
   have hbz := (HB3.out.set 0 (.int .i64 (n : Int))).set 1 (.slice xb yb zb)
   simp only [List.setIfInBounds_toArray, List.set_cons_zero, List.set_cons_succ] at hbz
   have ht : Touch (w.heap.size + 1) W2 ((W2.setCell ⟨w.heap.size + 1, 0, none⟩ (.int .i64 (n : Int))).setCell ⟨w.heap.size + 1, 1, none⟩ (.slice xb yb zb)) := ((Touch.of_below (Below.refl _ W2)).set _).set _
   have hl3 := (HL3.out.setCell (p := ⟨w.heap.size + 1, 0, none⟩) sW (.int .i64 (n : Int))).setCell (p := ⟨w.heap.size + 1, 1, none⟩) sW (.slice xb yb zb)
   have HSN : Hid (SqAt w ((W2.setCell ⟨w.heap.size + 1, 0, none⟩ (.int .i64 (n : Int))).setCell ⟨w.heap.size + 1, 1, none⟩ (.slice xb yb zb)) n xb yb zb ((Ls.take (k + 1)).foldl Qaw A)) :=
    ⟨hl3, HQ3.out.touch ht oW, hbz, by rw [HT.out]; exact HR3.out.touch HB3.out ht⟩
   clear hbz ht b0 b1 f0 f1 HB3 HQ3 HL3 HR3 HT
   refine hK.out _ _ ⟨(hl3.cell (p := ⟨s, j * 2, none⟩) hs).trans HE0.out, (hl3.cell (p := ⟨s, j * 2 + 1, none⟩) hs).trans HE1.out⟩ (fun hHeld => ?_)
   clear hK K hHeld hl3 HE0 HE1
   generalize (W2.setCell ⟨w.heap.size + 1, 0, none⟩ (.int .i64 ((n : Nat) : Int))).setCell ⟨w.heap.size + 1, 1, none⟩ (.slice xb yb zb) = W3 at *
   refine wpAnyH_done kW ?_ _
   try simp only [Act.put]
   go_wp2_with fail
   go_roundg (Ls.length - (k + 1))
   case measure => have := HKF.out; have := HL.out; omega
   case rel => exact ⟨j + 1, k + 1, xb, yb, zb, by go_num, by rw [Hid, HJ.out], HL.out, by have := HKF.out; have := HL.out; rw [Hid]; omega, HSN.out⟩
  ·have hkl : k = Ls.length := by have := HJ.out; have := HM.out; have := HK.out; omega
   subst hkl
   have HS2 := HS.out
   rw [List.take_length] at HS2
   have b0 := HS2.box.cell (j := 0) rfl
   have b1 := HS2.box.cell (j := 1) rfl
   have d0 := HS2.res.cell (j := 0) rfl
   have d1 := HS2.res.cell (j := 1) rfl
   have f0 := HS2.res.frozen 0
   have f1 := HS2.res.frozen 1
   have H2 := Qa HS2
   clear HS HS2
   go_wp2_with fail
   have hres := (H2.out.res.set 0 (.int .i64 (n : Int))).set 1 (.slice x y z)
   simp only [List.setIfInBounds_toArray, List.set_cons_zero, List.set_cons_succ] at hres
   (try simp only [Exit.inBlock, Exit.then])
   refine bodyPost_ret (Qbr rfl rfl hres) rfl ?_
   have ht : Touch w.heap.size wr ((wr.setCell ⟨w.heap.size, 0, none⟩ (.int .i64 (n : Int))).setCell ⟨w.heap.size, 1, none⟩ (.slice x y z)) := ((Touch.of_below (Below.refl _ wr)).set _).set _
   exact ⟨_, rfl, H2.out.rel.touch H2.out.res ht, (H2.out.low.setCell (p := ⟨w.heap.size, 0, none⟩) sW _).setCell (p := ⟨w.heap.size, 1, none⟩) sW _⟩
theorem QEb {A B : List Nat} {l : List (List Nat)} {k : Nat} (h : l[k]? = some B) : (l.take (k + 1)).foldl (fun A B => Qar [A, B]) A = (fun A B => Qar [A, B]) ((l.take k).foldl (fun A B => Qar [A, B]) A) B := by
 rw [List.take_add_one, h, List.foldl_append]
 rfl
theorem Qry (n : Nat) (hn : n ≤ 256) (A : List Nat) (Ls : List (List Nat)) (hL : Ls.length ≤ 64) (v : Value) (w : World) (h : RsA w n v (A :: Ls)) :
  Calls Tryz.prog 54 #[v] w (Qg2 n w (Ls.foldl (fun A B => Qar [A, B]) A)) := by
 obtain ⟨s, c, rfl, hs, hat⟩ := h
 obtain ⟨x0, y0, z0, k0, k1, hr0⟩ := hat 0 A rfl
 rw [Nat.zero_mul] at k0
 rw [Nat.zero_mul, Nat.zero_add] at k1
 have HA := Qa hat
 have HR := Qa hr0
 obtain ⟨m, hm⟩ : ∃ m, (A :: Ls).length = m := ⟨_, rfl⟩
 rw [hm]
 have HM : Hid (m = Ls.length + 1) := hm.symm
 have hl0 : (0 : Int) < (m : Int) := by have := HM.out; omega
 clear hat hr0 hm
 go_enter Tryz.func54, Tryz.ntmps54
 go_wp2_with fail
 have hB0 : Below w.heap.size w ((w.alloc (.cells #[.int .i64 0, .slice none 0 0] 51)).alloc (.cells #[.int .i64 (n : Int), .slice x0 y0 z0] 51)) := ((Below.refl _ w).alloc nW _).alloc sW _
 have HS : Hid (SqAt w ((w.alloc (.cells #[.int .i64 0, .slice none 0 0] 51)).alloc (.cells #[.int .i64 (n : Int), .slice x0 y0 z0] 51)) n x0 y0 z0 A) :=
  ⟨hB0, (Blk.new w _ _).alloc _, Blk.new2 w _ _ _, HR.out.below hB0⟩
 generalize (w.alloc (.cells #[.int .i64 0, .slice none 0 0] 51)).alloc (.cells #[.int .i64 ((n : Nat) : Int), .slice x0 y0 z0] 51) = W0 at *
 clear hB0 HR k0 k1 hl0
 go_loopg [4] Ls.length (fun f i wr => ∃ (j k : Nat) (x : Option Addr) (y z : Nat), i = .int .i64 ((j : Nat) : Int) ∧ Hid (j = k + 1) ∧ Hid (k ≤ Ls.length) ∧ Hid (k + f = Ls.length) ∧ Hid (SqAt w wr n x y z ((Ls.take k).foldl (fun A B => Qar [A, B]) A)))
 case atStart => exact ⟨1, 0, x0, y0, z0, rfl, rfl, Nat.zero_le _, Nat.zero_add _, HS.out⟩
 case round =>
  clear HS
  obtain ⟨j, k, x, y, z, rfl, HJ, HK, HKF, HS⟩ := hrel
  by_cases hlt : j < m
  ·have hkl : k < Ls.length := by have := HJ.out; have := HM.out; omega
   obtain ⟨B, hB⟩ : ∃ B, Ls[k]? = some B := ⟨_, List.getElem?_eq_getElem hkl⟩
   obtain ⟨xa, ya, za, e0, e1, hr⟩ := HA.out j B (by rw [HJ.out]; exact hB)
   have HL := Qa hkl
   clear hkl
   have d0 := (HS.out.low.cell (p := ⟨s, j * 2, none⟩) hs).trans e0
   have d1 := (HS.out.low.cell (p := ⟨s, j * 2 + 1, none⟩) hs).trans e1
   have HR1 := Qa (RT.below_to hr HS.out.low)
   have HT := Qa (QEb (A := A) hB)
   have K0 : (0 : Int) ≤ (j : Int) := by omega
   have K1 : (j : Int) < (m : Int) := by omega
   have hjb : j ≤ 64 := by have := HJ.out; have := HL.out; omega
   have HE0 := Qa e0
   have HE1 := Qa e1
   clear e0 e1 hr hB
   go_upto_region 5 with fail
   have HS1 := Qa HS.out.drew
   have HR2 := Qa (HR1.out.below bW.drew)
   clear HS HR1
   refine wp_region_held_drew (S := fun W => W.cell? ⟨s, j * 2, none⟩ = some (.int .i64 ((n : Nat) : Int)) ∧ W.cell? ⟨s, j * 2 + 1, none⟩ = some (.slice xa ya za)) kW ⟨d0, d1⟩ (fun hHeld => ?_)
   clear d0 d1
   generalize wr.drew = W1 at *
   have hlow := HS1.out.low
   refine tzW 1 rfl ?_
   refine tzW 2 rfl ?_
   refine tzW 3 rfl ?_
   refine tzW 4 rfl ?_
   have b0 : W1.cell? ⟨w.heap.size + 1, 0, none⟩ = some (.int .i64 (n : Int)) := HS1.out.box.cell rfl
   have b1 : W1.cell? ⟨w.heap.size + 1, 1, none⟩ = some (.slice x y z) := HS1.out.box.cell rfl
   refine wpAnyH_ready (rs := [0]) kW sW ?_
   refine rdy rfl (fun K hK => ?_) AllReadyH.nil
   simp only [z1, z2, z3]
   go_simp
   refine hK.out _ _ hHeld (fun hHeld => ?_)
   clear hK K b0 b1
   try simp only [zz]
   refine wpAnyH_ready (rs := [5]) kW sW ?_
   refine rdy rfl (fun K hK => ?_) AllReadyH.nil
   simp only [z1, z2, z3]
   go_simp
   refine (QE7 hn HS1.out.rel HR2.out).mono ?_
   rintro e W2 ⟨r2, rfl, hR2, hB2⟩
   obtain ⟨xb, yb, zb, rfl⟩ := hR2.form
   have hbx := HS1.out.box.of_below hB2
   have hrs := HS1.out.res.of_below hB2
   have hl2 := Qaa HS1.out.low HS1.out.low.size hB2
   have q0 := (hB2.cell (p := ⟨s, j * 2, none⟩) (block_lt_of_cell hHeld.1)).trans hHeld.1
   have q1 := (hB2.cell (p := ⟨s, j * 2 + 1, none⟩) (block_lt_of_cell hHeld.2)).trans hHeld.2
   refine hK.out _ _ ⟨q0, q1⟩ (fun hHeld => ?_)
   clear hK K
   try simp only [zz]
   have HR3 := Qa hR2
   have HB3 := Qa hbx
   have HQ3 := Qa hrs
   have HL3 := Qa hl2
   clear hR2 hbx hrs hl2 hB2 HS1 HR2
   have b0 : W2.cell? ⟨w.heap.size + 1, 0, none⟩ = some (.int .i64 (n : Int)) := HB3.out.cell rfl
   have b1 : W2.cell? ⟨w.heap.size + 1, 1, none⟩ = some (.slice x y z) := HB3.out.cell rfl
   have f0 := HB3.out.frozen 0
   have f1 := HB3.out.frozen 1
   refine wpAnyH_ready (rs := [6]) kW sW ?_
   refine rdy rfl (fun K hK => ?_) AllReadyH.nil
   simp only [z1, z2, z3]
   go_simp
   have hbz := (HB3.out.set 0 (.int .i64 (n : Int))).set 1 (.slice xb yb zb)
   simp only [List.setIfInBounds_toArray, List.set_cons_zero, List.set_cons_succ] at hbz
   have ht : Touch (w.heap.size + 1) W2 ((W2.setCell ⟨w.heap.size + 1, 0, none⟩ (.int .i64 (n : Int))).setCell ⟨w.heap.size + 1, 1, none⟩ (.slice xb yb zb)) := ((Touch.of_below (Below.refl _ W2)).set _).set _
   have hl3 := (HL3.out.setCell (p := ⟨w.heap.size + 1, 0, none⟩) sW (.int .i64 (n : Int))).setCell (p := ⟨w.heap.size + 1, 1, none⟩) sW (.slice xb yb zb)
   have HSN : Hid (SqAt w ((W2.setCell ⟨w.heap.size + 1, 0, none⟩ (.int .i64 ((n : Nat) : Int))).setCell ⟨w.heap.size + 1, 1, none⟩ (.slice xb yb zb)) n xb yb zb ((Ls.take (k + 1)).foldl (fun A B => Qar [A, B]) A)) :=
    ⟨hl3, HQ3.out.touch ht oW, hbz, by rw [HT.out]; exact HR3.out.touch HB3.out ht⟩
   clear hbz ht b0 b1 f0 f1 HB3 HQ3 HL3 HR3 HT
   refine hK.out _ _ ⟨(hl3.cell (p := ⟨s, j * 2, none⟩) hs).trans HE0.out, (hl3.cell (p := ⟨s, j * 2 + 1, none⟩) hs).trans HE1.out⟩ (fun hHeld => ?_)
   clear hK K hHeld hl3 HE0 HE1
   generalize (W2.setCell ⟨w.heap.size + 1, 0, none⟩ (.int .i64 ((n : Nat) : Int))).setCell ⟨w.heap.size + 1, 1, none⟩ (.slice xb yb zb) = W3 at *
   refine wpAnyH_done kW ?_ _
   try simp only [Act.put]
   go_wp2_with fail
   go_roundg (Ls.length - (k + 1))
   case measure => have := HKF.out; have := HL.out; omega
   case rel => exact ⟨j + 1, k + 1, xb, yb, zb, by go_num, by rw [Hid, HJ.out], HL.out, by have := HKF.out; have := HL.out; rw [Hid]; omega, HSN.out⟩
  ·have hkl : k = Ls.length := by have := HJ.out; have := HM.out; have := HK.out; omega
   subst hkl
   have HS2 := HS.out
   rw [List.take_length] at HS2
   have b0 := HS2.box.cell (j := 0) rfl
   have b1 := HS2.box.cell (j := 1) rfl
   have d0 := HS2.res.cell (j := 0) rfl
   have d1 := HS2.res.cell (j := 1) rfl
   have f0 := HS2.res.frozen 0
   have f1 := HS2.res.frozen 1
   have H2 := Qa HS2
   clear HS HS2
   go_wp2_with fail
   have hres := (H2.out.res.set 0 (.int .i64 (n : Int))).set 1 (.slice x y z)
   simp only [List.setIfInBounds_toArray, List.set_cons_zero, List.set_cons_succ] at hres
   (try simp only [Exit.inBlock, Exit.then])
   refine bodyPost_ret (Qbr rfl rfl hres) rfl ?_
   have ht : Touch w.heap.size wr ((wr.setCell ⟨w.heap.size, 0, none⟩ (.int .i64 (n : Int))).setCell ⟨w.heap.size, 1, none⟩ (.slice x y z)) := ((Touch.of_below (Below.refl _ wr)).set _).set _
   exact ⟨_, rfl, H2.out.rel.touch H2.out.res ht, (H2.out.low.setCell (p := ⟨w.heap.size, 0, none⟩) sW _).setCell (p := ⟨w.heap.size, 1, none⟩) sW _⟩
theorem SetArg.list {w : World} {v : Value} {l : List Bool} (h : SetArg w v l) : ∃ p c, v = .slice p l.length c ∧ (0 < l.length → ∃ s o, p = some ⟨s, o, none⟩ ∧ s < w.heap.size ∧ ∀ (i : Nat) (x : Bool), l[i]? = some x → w.cell? ⟨s, o + i, none⟩ = some (.bool x)) := by
 rcases h with ⟨a, cap, rfl, rfl⟩ | ⟨s, o, cap, rfl, h1, h2⟩
 ·exact ⟨a, cap, rfl, fun h => absurd h sW⟩
 ·exact ⟨_, cap, rfl, fun _ => ⟨s, o, rfl, h1, h2⟩⟩
theorem Qi8 {w : World} {base : Nat} {v : Value} {l : List Bool} (h : w.ownsRow base 4 1 v l.length (Qdp l)) : SetArg w v l := by
 rcases h.2 with ⟨e, e2⟩ | ⟨s, cap, cur, e, _, hb, _, _, _, ht⟩
 ·exact .inl ⟨_, _, e, List.eq_nil_of_length_eq_zero e2⟩
 ·have hk : Blk w s 4 cur := hb
  refine .inr ⟨s, 0, cap, e, hk.lt, fun i x hx => ?_⟩
  rw [Nat.zero_add]
  apply hk.cell
  have hi : i < l.length := (List.getElem?_eq_some_iff.1 hx).1
  have : (Qdp l)[i]? = some (.bool x) := by simp [Qdp, QD5, hx]
  rw [← ht, List.getElem?_take_of_lt oW] at this
  simpa using this
theorem QA9 {f : Bool → Bool → Bool} {l1 l2 : List Bool} {k : Nat} {a b : Bool} (h1 : l1[k]? = some a) (h2 : l2[k]? = some b) : List.zipWith f (l1.take (k + 1)) (l2.take (k + 1)) = List.zipWith f (l1.take k) (l2.take k) ++ [f a b] := by
 have k1 := (List.getElem?_eq_some_iff.1 h1).1
 have k2 := (List.getElem?_eq_some_iff.1 h2).1
 rw [List.take_add_one, List.take_add_one, h1, h2, List.zipWith_append (by rw [List.length_take, List.length_take]; omega)]
 rfl
theorem Qrz (l1 l2 : List Bool) (hl : l2.length = l1.length) (hn : l1.length ≤ 256) (u v : Value) (w : World) (h1 : SetArg w u l1) (h2 : SetArg w v l2) :
  Calls Tryz.prog 50 #[u, v] w fun r w' => ∃ x, r = .returned x ∧ SetArg w' x (List.zipWith (fun a b => a && b) l1 l2) ∧ Below w.heap.size w w' := by
 obtain ⟨i0, hi, hz0, hz1, hz2⟩ := info_parts Tryz.infobool
 obtain ⟨p1, c1, rfl, hp1⟩ := h1.list
 obtain ⟨p2, c2, rfl, hp2⟩ := h2.list
 rw [hl] at hp2 ⊢
 have HP1 := Qa hp1
 have HP2 := Qa hp2
 have HL := Qa hl
 clear h1 h2 hp1 hp2 hl
 go_enter Tryz.func50, Tryz.ntmps50
 go_wp2_with fail
 go_loopg [5, 6] l1.length (fun f ov i wr => ∃ k : Nat, i = .int .i64 ((k : Nat) : Int) ∧ k ≤ l1.length ∧ Hid (k + f = l1.length) ∧ Hid (wr.ownsRow w.heap.size 4 1 ov (List.zipWith (fun a b => a && b) (l1.take k) (l2.take k)).length (Qdp (List.zipWith (fun a b => a && b) (l1.take k) (l2.take k)))) ∧ Hid (Below w.heap.size w wr))
 case atStart => exact ⟨0, rfl, Nat.zero_le _, Nat.zero_add _, World.ownsRow_nil _ _ _ _, Below.refl _ _⟩
 case round =>
  obtain ⟨k, rfl, hk, HKF, HO, HW⟩ := hrel
  obtain ⟨oa, ocap, rfl⟩ := Qax HO.out
  by_cases hlt : k < l1.length
  ·obtain ⟨s, o, rfl, hs, hat⟩ := HP1.out oW
   obtain ⟨s2, o2, rfl, hs2, hat2⟩ := HP2.out oW
   obtain ⟨x, hx⟩ : ∃ x, l1[k]? = some x := ⟨_, List.getElem?_eq_getElem hlt⟩
   obtain ⟨y, hy⟩ : ∃ y, l2[k]? = some y := ⟨_, List.getElem?_eq_getElem (by rw [HL.out]; exact hlt)⟩
   have x1 := (HW.out.cell (p := ⟨s, o + k, none⟩) hs).trans (hat k x hx)
   have x2 := (HW.out.cell (p := ⟨s2, o2 + k, none⟩) hs2).trans (hat2 k y hy)
   have K0 : (0 : Int) ≤ (k : Int) := by omega
   have K1 : (k : Int) < (l1.length : Int) := by omega
   have HSN := Qa (QA9 (f := fun a b => a && b) hx hy)
   have htl : (List.zipWith (fun a b => a && b) (l1.take k) (l2.take k)).length ≤ k := by simp; omega
   have hsz := HW.out.size
   clear hat hat2 hx hy
   generalize List.zipWith (fun a b => a && b) (l1.take k) (l2.take k) = tkk at *
   cases x
   ·go_wp2_with (at_builtin; refine wpList_append_own_at _ rfl _ _ 65 rfl w.heap.size 4 i0 (.bool false) 1 1 Tryz.underlying65 hi hz0 hz1 hz2 rfl dW (.slice oa tkk.length ocap) tkk.length (Qdp tkk) rfl (HO.out.alloc _) ⟨_, 0, none⟩ 1 1 [.bool false] rfl rfl (Qkn wr 4 _) (by simp [Value.oneCell']) (by unfold maxLen; omega) oW (by simp; omega) ?_; intro v5 w5 hown' hgrow _ _)
    have hb5 : Below w.heap.size w w5 := (HW.out.alloc hsz _).grown hgrow (by simp; omega) (fun q e => (HO.out.lt q e).1)
    go_roundg (l1.length - (k + 1))
    case measure => have := HKF.out; omega
    case rel => exact ⟨k + 1, by go_num, oW, by have := HKF.out; rw [Hid]; omega, by rw [Hid, HSN.out, List.length_append, Qdp, List.map_append]; exact hown', hb5⟩
   ·go_wp2_with (at_builtin; refine wpList_append_own_at _ rfl _ _ 65 rfl w.heap.size 4 i0 (.bool false) 1 1 Tryz.underlying65 hi hz0 hz1 hz2 rfl dW (.slice oa tkk.length ocap) tkk.length (Qdp tkk) rfl (HO.out.alloc _) ⟨_, 0, none⟩ 1 1 [.bool y] rfl rfl (Qkn wr 4 _) (by simp [Value.oneCell']) (by unfold maxLen; omega) oW (by simp; omega) ?_; intro v5 w5 hown' hgrow _ _)
    have hb5 : Below w.heap.size w w5 := (HW.out.alloc hsz _).grown hgrow (by simp; omega) (fun q e => (HO.out.lt q e).1)
    go_roundg (l1.length - (k + 1))
    case measure => have := HKF.out; omega
    case rel => exact ⟨k + 1, by go_num, oW, by have := HKF.out; rw [Hid]; omega, by rw [Hid, HSN.out, List.length_append, Qdp, List.map_append]; exact hown', hb5⟩
  ·obtain rfl : k = l1.length := by omega
   go_wp2_with fail
   go_ret
   refine ⟨_, rfl, ?_, HW.out⟩
   have h9 := Qi8 HO.out
   have e1 : List.take l1.length l1 = l1 := List.take_length
   have e2 : List.take l1.length l2 = l2 := by rw [← HL.out]; exact List.take_length
   show SetArg wr (.slice oa (List.zipWith (fun a b => a && b) (List.take l1.length l1) (List.take l1.length l2)).length ocap) _
   rw [e1, e2] at h9 ⊢
   exact h9
theorem Qjm {G F0 : Nat → Nat → Bool} {m a b : Nat} {q : Bool} (h : G a b = q) (p r : Nat) : upd (Qaj G F0 m a b) a b q p r = Qaj G F0 m a (b + 1) p r := by
 rw [← h]
 exact congrFun (congrFun (Qd2 G F0) p) r
theorem Qwr (V : GrV) (g : Gr) (w : World) (h : GrR w V g) (hn : g.evs.length ≤ 256) : Calls Tryz.prog 42 #[V.val g] w fun e w' => ∃ M rb, e = .returned (.agg #[.int .i64 (g.evs.length : Int), M]) ∧ RefM w.heap.size w' M g.evs.length g.evs.length rb (fun p q => Qde g.evs ((p : Nat) : Int) ((q : Nat) : Int)) ∧ Below w.heap.size w w' := by
 obtain ⟨Ve, Vr, Vc, Vm, Va, Vd, Vt⟩ := V
 obtain ⟨p1, k1, e1, hp, _⟩ := h.ev
 obtain ⟨p2, k2, e2, _, _⟩ := Qab h.rf
 obtain ⟨p4, k4, e4, _, _⟩ := Qab h.rmw
 obtain ⟨p5, k5, e5, _, _⟩ := Qab h.addr
 obtain ⟨p6, k6, e6, _, _⟩ := Qab h.dat
 obtain ⟨p7, k7, e7, _, _⟩ := Qab h.ctrl
 obtain ⟨p3, k3, e3, _, _⟩ := Qbg h.co
 dsimp only at e1 e2 e3 e4 e5 e6 e7
 subst e1 e2 e3 e4 e5 e6 e7
 have HV := Qa h
 have HP := Qa hp
 have HG0 := Qa ((Blk.new w 27 (g8 g p1 k1 p2 k2 p3 k3 p4 k4 p5 k5 p6 k6 p7 k7)).alloc (.cells #[.int .i64 0, .slice none 0 0] 51))
 have c1 : ((w.alloc (.cells (g8 g p1 k1 p2 k2 p3 k3 p4 k4 p5 k5 p6 k6 p7 k7) 27)).alloc (.cells #[.int .i64 0, .slice none 0 0] 51)).cell? ⟨w.heap.size, 1, none⟩ = some (.slice p1 g.evs.length k1) := HG0.out.cell rfl
 unfold GrV.val
 dsimp only
 clear h hp
 go_enter Tryz.func42, Tryz.ntmps42
 go_wp2_with fail
 refine (Qd g.evs.length hn _).mono ?_
 rintro e w1 ⟨M, rbw, rfl, hRM, hB1⟩
 obtain ⟨xm, ym, zm, rfl⟩ := hRM.slice
 have hA : MkAt w (w1.alloc (.cells #[.int .i64 (g.evs.length : Int), .slice xm ym zm] 51)) 2 [(1, #[.int .i64 0, .slice none 0 0])] w1.heap.size g.evs.length (.slice xm ym zm) rbw (Qaj (fun p q => Qde g.evs ((p : Nat) : Int) ((q : Nat) : Int)) (fun _ _ => false) g.evs.length 0 0) := by
  refine MkAt.begin (((Below.refl _ w).alloc nW _).alloc sW _) sW ?_ (hRM.congr fun p q hp hq => ?_) hB1
  ·intro x hx
   simp only [List.mem_cons, List.not_mem_nil, or_false] at hx
   subst hx
   exact ⟨oW, Blk.new2 w _ _ _⟩
  ·rw [Qct]
 have hG := ((HG0.out.of_below hB1).alloc (.cells #[.int .i64 (g.evs.length : Int), .slice xm ym zm] 51))
 clear hRM hB1 HG0 c1
 go_wp2_with fail
 generalize w1.heap.size = B at *
 go_loopw [4] (fun i wr => ∃ a, a ≤ g.evs.length ∧ i = .int .i64 ((a : Nat) : Int) ∧ MkAt w wr 2 [(1, #[.int .i64 0, .slice none 0 0])] B g.evs.length (.slice xm ym zm) rbw (Qaj (fun p q => Qde g.evs ((p : Nat) : Int) ((q : Nat) : Int)) (fun _ _ => false) g.evs.length a 0) ∧ Blk wr w.heap.size 27 (g8 g p1 k1 p2 k2 p3 k3 p4 k4 p5 k5 p6 k6 p7 k7)) (fun i _ => g.evs.length - (intOf i).toNat)
 case atStart => exact ⟨0, oW, rfl, hA, hG⟩
 case round =>
  clear hA hG
  obtain ⟨a, ha, rfl, hA, hG⟩ := hrel
  have c0 := hA.box.cell (j := 0) rfl
  by_cases hlt : a < g.evs.length
  ·go_wp2_with fail
   clear c0
   go_loopw [5] (fun i wr => ∃ b, b ≤ g.evs.length ∧ i = .int .i64 ((b : Nat) : Int) ∧ MkAt w wr 2 [(1, #[.int .i64 0, .slice none 0 0])] B g.evs.length (.slice xm ym zm) rbw (Qaj (fun p q => Qde g.evs ((p : Nat) : Int) ((q : Nat) : Int)) (fun _ _ => false) g.evs.length a b) ∧ Blk wr w.heap.size 27 (g8 g p1 k1 p2 k2 p3 k3 p4 k4 p5 k5 p6 k6 p7 k7)) (fun i _ => g.evs.length - (intOf i).toNat)
   case atStart => exact ⟨0, oW, rfl, hA, hG⟩
   case round =>
    clear hA hG
    obtain ⟨b, hb, rfl, hA, hG⟩ := hrel
    generalize hwq : wr = wx at *
    clear hwq
    have c0 := hA.box.cell (j := 0) rfl
    by_cases hlt2 : b < g.evs.length
    ·obtain ⟨g2, cap2, e2, q2, _, n2, s0, s1, fz, q3⟩ := hA.ref.at_ hlt hlt2
     cases e2
     have A0 : (0 : Int) ≤ (a : Int) := by omega
     have A1 : (a : Int) < (g.evs.length : Int) := by omega
     have C0 : (0 : Int) ≤ (b : Int) := by omega
     have C1 : (b : Int) < (g.evs.length : Int) := by omega
     have HZ : Hid (∀ W F, MkAt w W 2 [(1, #[.int .i64 0, .slice none 0 0])] B g.evs.length (.slice (some ⟨g2, 0, none⟩) g.evs.length zm) rbw F → Blk W w.heap.size 27 (g8 g p1 k1 p2 k2 p3 k3 p4 k4 p5 k5 p6 k6 p7 k7) → W.cell? ⟨B, 1, none⟩ = some (.slice (some ⟨g2, 0, none⟩) g.evs.length zm) ∧ W.cell? ⟨g2, a, none⟩ = some (hdr g.evs.length (rbw a)) ∧ W.cell? ⟨w.heap.size, 0, none⟩ = some (.int .i64 g.cells) ∧ W.cell? ⟨w.heap.size, 1, none⟩ = some (.slice p1 g.evs.length k1) ∧ W.cell? ⟨w.heap.size, 2, none⟩ = some (.slice p2 g.rf.length k2) ∧ W.cell? ⟨w.heap.size, 3, none⟩ = some (.slice p3 g.co.length k3) ∧ W.cell? ⟨w.heap.size, 4, none⟩ = some (.slice p4 g.rmw.length k4) ∧ W.cell? ⟨w.heap.size, 5, none⟩ = some (.slice p5 g.addr.length k5) ∧ W.cell? ⟨w.heap.size, 6, none⟩ = some (.slice p6 g.dat.length k6) ∧ W.cell? ⟨w.heap.size, 7, none⟩ = some (.slice p7 g.ctrl.length k7)) := fun W F hA hG => ⟨hA.box.cell rfl, (by obtain ⟨g3, cap3, e3, _, _, _, s0, _⟩ := hA.ref.at_ hlt hlt2; cases e3; exact s0), hG.cell rfl, hG.cell rfl, hG.cell rfl, hG.cell rfl, hG.cell rfl, hG.cell rfl, hG.cell rfl, hG.cell rfl⟩
     have HHA := Qa hA.drew
     have HHG := Qa hG.drew
     have DB := Qa (Qgp ⟨.slice p1 g.evs.length k1, .slice p2 g.rf.length k2, .slice p3 g.co.length k3, .slice p4 g.rmw.length k4, .slice p5 g.addr.length k5, .slice p6 g.dat.length k6, .slice p7 g.ctrl.length k7⟩ g (a : Int) (b : Int) wx.drew (HV.out.below (hA.drew).below))
     unfold GrV.val at DB
     dsimp only at DB
     clear s0 s1 fz hA hG
     go_upto_region 8 with fail
     clear c0
     refine wp_region_held_drew (S := fun W => W.cell? ⟨B, 1, none⟩ = some (.slice (some ⟨g2, 0, none⟩) g.evs.length zm) ∧ W.cell? ⟨g2, a, none⟩ = some (hdr g.evs.length (rbw a)) ∧ W.cell? ⟨w.heap.size, 0, none⟩ = some (.int .i64 g.cells) ∧ W.cell? ⟨w.heap.size, 1, none⟩ = some (.slice p1 g.evs.length k1) ∧ W.cell? ⟨w.heap.size, 2, none⟩ = some (.slice p2 g.rf.length k2) ∧ W.cell? ⟨w.heap.size, 3, none⟩ = some (.slice p3 g.co.length k3) ∧ W.cell? ⟨w.heap.size, 4, none⟩ = some (.slice p4 g.rmw.length k4) ∧ W.cell? ⟨w.heap.size, 5, none⟩ = some (.slice p5 g.addr.length k5) ∧ W.cell? ⟨w.heap.size, 6, none⟩ = some (.slice p6 g.dat.length k6) ∧ W.cell? ⟨w.heap.size, 7, none⟩ = some (.slice p7 g.ctrl.length k7)) kW (HZ.out _ _ HHA.out HHG.out) (fun hHeld => ?_)
     refine tzW 0 rfl ?_
     refine tzW 1 rfl ?_
     refine tzW 2 rfl ?_
     refine tzW 3 rfl ?_
     refine tzW 4 rfl ?_
     refine tzW 5 rfl ?_
     refine tzW 6 rfl ?_
     refine tzW 7 rfl ?_
     refine tzW 8 rfl ?_
     refine wpAnyH_ready (rs := [9]) kW sW ?_
     refine AllReadyH.cons rfl (fun K hK => ?_) AllReadyH.nil
     simp only [z1, z2, z3]
     go_simp
     refine DB.out.mono ?_
     rintro e w5 ⟨rfl, hB5⟩
     have hA5 := HHA.out.step hB5
     have hG5 := HHG.out.of_below hB5
     obtain ⟨g4, cap4, e4, _, _, _, _, s5, f5, _⟩ := hA5.ref.at_ hlt hlt2
     cases e4
     refine hK.out _ _ (HZ.out _ _ hA5 hG5) (fun hHeld => ?_)
     clear hK K
     try simp only [zz]
     refine tzW 10 rfl ?_
     refine wpAnyH_ready (rs := [11]) kW sW ?_
     refine AllReadyH.cons rfl (fun K hK => ?_) AllReadyH.nil
     simp only [z1, z2, z3]
     go_simp
     refine hK.out _ _ (HZ.out _ _ (hA5.put hlt hlt2 _) (hG5.setOther (by have := (hA5.ref.row a hlt).1; simp; omega) _)) (fun hHeld => ?_)
     clear hK K
     try simp only [zz]
     refine wpAnyH_done kW ?_ _
     go_wp2_with fail
     refine ⟨⟨b + 1, oW, by go_num, (hA5.put hlt hlt2 _).congr (fun p r _ _ => Qjm rfl p r), hG5.setOther (by have := (hA5.ref.row a hlt).1; simp; omega) _⟩, by simp [intOf]; omega⟩
    ·have e : g.evs.length = b := by omega
     have hA := hA
     obtain rfl : b = g.evs.length := e.symm
     rw [Qdb] at hA
     go_wp2_with fail
     refine ⟨⟨a + 1, oW, by go_num, hA, hG⟩, by simp [intOf]; omega⟩
  ·obtain rfl : a = g.evs.length := by omega
   have hA := hA.congr (G := fun p q => Qde g.evs ((p : Nat) : Int) ((q : Nat) : Int)) (fun p q hp hq => Qd6 hp hq)
   have b0 := hA.box.cell (j := 0) rfl
   have b1 := hA.box.cell (j := 1) rfl
   have hr := hA.fst
   have d0 := hr.cell (j := 0) rfl
   have d1 := hr.cell (j := 1) rfl
   have f0 := hr.frozen 0
   have f1 := hr.frozen 1
   go_wp2_with fail
   have hres := (hr.set 0 (.int .i64 (g.evs.length : Int))).set 1 (.slice xm ym zm)
   simp only [List.setIfInBounds_toArray, List.set_cons_zero, List.set_cons_succ] at hres
   (try simp only [Exit.inBlock, Exit.then])
   refine bodyPost_ret (Qbr rfl rfl hres) rfl ?_
   obtain ⟨hA1, hB1⟩ := hA.answer (r := 1) oW
   exact ⟨_, rbw, rfl, hA1, hB1⟩
theorem Qug (V : GrV) (g : Gr) (w : World) (h : GrR w V g) (hn : g.evs.length ≤ 256) : Calls Tryz.prog 46 #[V.val g] w fun e w' => ∃ M rb, e = .returned (.agg #[.int .i64 (g.evs.length : Int), M]) ∧ RefM w.heap.size w' M g.evs.length g.evs.length rb (Qfs g.evs) ∧ Below w.heap.size w w' := by
 obtain ⟨Ve, Vr, Vc, Vm, Va, Vd, Vt⟩ := V
 obtain ⟨p1, k1, e1, hp, _⟩ := h.ev
 obtain ⟨p2, k2, e2, _, _⟩ := Qab h.rf
 obtain ⟨p4, k4, e4, _, _⟩ := Qab h.rmw
 obtain ⟨p5, k5, e5, _, _⟩ := Qab h.addr
 obtain ⟨p6, k6, e6, _, _⟩ := Qab h.dat
 obtain ⟨p7, k7, e7, _, _⟩ := Qab h.ctrl
 obtain ⟨p3, k3, e3, _, _⟩ := Qbg h.co
 dsimp only at e1 e2 e3 e4 e5 e6 e7
 subst e1 e2 e3 e4 e5 e6 e7
 have HV := Qa h
 have HP := Qa hp
 have HG0 := Qa ((Blk.new w 27 (g8 g p1 k1 p2 k2 p3 k3 p4 k4 p5 k5 p6 k6 p7 k7)).alloc (.cells #[.int .i64 0, .slice none 0 0] 51))
 have c1 : ((w.alloc (.cells (g8 g p1 k1 p2 k2 p3 k3 p4 k4 p5 k5 p6 k6 p7 k7) 27)).alloc (.cells #[.int .i64 0, .slice none 0 0] 51)).cell? ⟨w.heap.size, 1, none⟩ = some (.slice p1 g.evs.length k1) := HG0.out.cell rfl
 unfold GrV.val
 dsimp only
 clear h hp
 go_enter Tryz.func46, Tryz.ntmps46
 go_wp2_with fail
 refine (Qd g.evs.length hn _).mono ?_
 rintro e w1 ⟨M, rbw, rfl, hRM, hB1⟩
 obtain ⟨xm, ym, zm, rfl⟩ := hRM.slice
 have hA : MkAt w (w1.alloc (.cells #[.int .i64 (g.evs.length : Int), .slice xm ym zm] 51)) 2 [(1, #[.int .i64 0, .slice none 0 0])] w1.heap.size g.evs.length (.slice xm ym zm) rbw (Qaj (Qfs g.evs) (fun _ _ => false) g.evs.length 0 0) := by
  refine MkAt.begin (((Below.refl _ w).alloc nW _).alloc sW _) sW ?_ (hRM.congr fun p q hp hq => ?_) hB1
  ·intro x hx
   simp only [List.mem_cons, List.not_mem_nil, or_false] at hx
   subst hx
   exact ⟨oW, Blk.new2 w _ _ _⟩
  ·rw [Qct]
 have hG := ((HG0.out.of_below hB1).alloc (.cells #[.int .i64 (g.evs.length : Int), .slice xm ym zm] 51))
 clear hRM hB1 HG0 c1
 go_wp2_with fail
 generalize w1.heap.size = B at *
 go_loopw [4] (fun i wr => ∃ a, a ≤ g.evs.length ∧ i = .int .i64 ((a : Nat) : Int) ∧ MkAt w wr 2 [(1, #[.int .i64 0, .slice none 0 0])] B g.evs.length (.slice xm ym zm) rbw (Qaj (Qfs g.evs) (fun _ _ => false) g.evs.length a 0) ∧ Blk wr w.heap.size 27 (g8 g p1 k1 p2 k2 p3 k3 p4 k4 p5 k5 p6 k6 p7 k7)) (fun i _ => g.evs.length - (intOf i).toNat)
 case atStart => exact ⟨0, oW, rfl, hA, hG⟩
 case round =>
  clear hA hG
  obtain ⟨a, ha, rfl, hA, hG⟩ := hrel
  have c0 := hA.box.cell (j := 0) rfl
  by_cases hlt : a < g.evs.length
  ·go_wp2_with fail
   clear c0
   go_loopw [5] (fun i wr => ∃ b, b ≤ g.evs.length ∧ i = .int .i64 ((b : Nat) : Int) ∧ MkAt w wr 2 [(1, #[.int .i64 0, .slice none 0 0])] B g.evs.length (.slice xm ym zm) rbw (Qaj (Qfs g.evs) (fun _ _ => false) g.evs.length a b) ∧ Blk wr w.heap.size 27 (g8 g p1 k1 p2 k2 p3 k3 p4 k4 p5 k5 p6 k6 p7 k7)) (fun i _ => g.evs.length - (intOf i).toNat)
   case atStart => exact ⟨0, oW, rfl, hA, hG⟩
   case round =>
    clear hA hG
    obtain ⟨b, hb, rfl, hA, hG⟩ := hrel
    generalize hwq : wr = wx at *
    clear hwq
    have c0 := hA.box.cell (j := 0) rfl
    by_cases hlt2 : b < g.evs.length
    ·obtain ⟨g2, cap2, e2, q2, _, n2, s0, s1, fz, q3⟩ := hA.ref.at_ hlt hlt2
     cases e2
     have A0 : (0 : Int) ≤ (a : Int) := by omega
     have A1 : (a : Int) < (g.evs.length : Int) := by omega
     have C0 : (0 : Int) ≤ (b : Int) := by omega
     have C1 : (b : Int) < (g.evs.length : Int) := by omega
     obtain ⟨s, o, rfl, hat⟩ := HP.out oW
     have HZ : Hid (∀ W F, MkAt w W 2 [(1, #[.int .i64 0, .slice none 0 0])] B g.evs.length (.slice (some ⟨g2, 0, none⟩) g.evs.length zm) rbw F → Blk W w.heap.size 27 #[.int .i64 g.cells, .slice (some ⟨s, o, none⟩) g.evs.length k1, .slice p2 g.rf.length k2, .slice p3 g.co.length k3, .slice p4 g.rmw.length k4, .slice p5 g.addr.length k5, .slice p6 g.dat.length k6, .slice p7 g.ctrl.length k7] → W.cell? ⟨B, 1, none⟩ = some (.slice (some ⟨g2, 0, none⟩) g.evs.length zm) ∧ W.cell? ⟨g2, a, none⟩ = some (hdr g.evs.length (rbw a)) ∧ W.cell? ⟨w.heap.size, 1, none⟩ = some (.slice (some ⟨s, o, none⟩) g.evs.length k1) ∧ W.cell? ⟨s, o + a * 5, none⟩ = some (.int .i64 (g.evs.getD a Ev.zero).t) ∧ W.cell? ⟨s, o + b * 5, none⟩ = some (.int .i64 (g.evs.getD b Ev.zero).t)) := fun W F hA hG => ⟨hA.box.cell rfl, (by obtain ⟨g3, cap3, e3, _, _, _, s0, _⟩ := hA.ref.at_ hlt hlt2; cases e3; exact s0), hG.cell rfl, (hat.below hA.below).c0 a _ (Qa9 hlt), (hat.below hA.below).c0 b _ (Qa9 hlt2)⟩
     have hF : Qfs g.evs a b = ((g.evs.getD a Ev.zero).t != (g.evs.getD b Ev.zero).t) := by unfold Qfs; rw [Bool.eq_iff_iff]; simp
     have HHA := Qa hA.drew
     have HHG := Qa hG.drew
     have HHF := Qa hF
     clear s0 s1 fz hA hG hat hF
     generalize (g.evs.getD a Ev.zero).t = ta at *
     generalize (g.evs.getD b Ev.zero).t = tb at *
     obtain ⟨g4, cap4, e4, _, _, _, _, s5, f5, _⟩ := HHA.out.ref.at_ hlt hlt2
     cases e4
     go_upto_region 8 with fail
     clear c0
     refine wp_region_held_drew (S := fun W => W.cell? ⟨B, 1, none⟩ = some (.slice (some ⟨g2, 0, none⟩) g.evs.length zm) ∧ W.cell? ⟨g2, a, none⟩ = some (hdr g.evs.length (rbw a)) ∧ W.cell? ⟨w.heap.size, 1, none⟩ = some (.slice (some ⟨s, o, none⟩) g.evs.length k1) ∧ W.cell? ⟨s, o + a * 5, none⟩ = some (.int .i64 ta) ∧ W.cell? ⟨s, o + b * 5, none⟩ = some (.int .i64 tb)) kW (HZ.out _ _ HHA.out HHG.out) (fun hHeld => ?_)
     refine tzW 0 rfl ?_
     refine tzW 1 rfl ?_
     refine tzW 2 rfl ?_
     refine tzW 3 rfl ?_
     refine tzW 4 rfl ?_
     refine tzW 5 rfl ?_
     refine tzW 6 rfl ?_
     refine tzW 7 rfl ?_
     refine tzW 8 rfl ?_
     refine tzW 9 rfl ?_
     refine tzW 10 rfl ?_
     refine tzW 11 rfl ?_
     refine tzW 12 rfl ?_
     refine tzW 13 rfl ?_
     refine tzW 14 rfl ?_
     refine tzW 15 rfl ?_
     refine tzW 16 rfl ?_
     refine tzW 17 rfl ?_
     refine tzW 18 rfl ?_
     refine tzW 19 rfl ?_
     refine wpAnyH_ready (rs := [20]) kW sW ?_
     refine AllReadyH.cons rfl (fun K hK => ?_) AllReadyH.nil
     simp only [z1, z2, z3]
     go_simp
     refine hK.out _ _ (HZ.out _ _ (HHA.out.put hlt hlt2 _) (HHG.out.setOther (by have := (HHA.out.ref.row a hlt).1; simp; omega) _)) (fun hHeld => ?_)
     clear hK K
     try simp only [zz]
     refine wpAnyH_done kW ?_ _
     go_wp2_with fail
     refine ⟨⟨b + 1, oW, by go_num, (HHA.out.put hlt hlt2 _).congr (fun p r _ _ => Qjm HHF.out p r), HHG.out.setOther (by have := (HHA.out.ref.row a hlt).1; simp; omega) _⟩, by simp [intOf]; omega⟩
    ·have e : g.evs.length = b := by omega
     have hA := hA
     obtain rfl : b = g.evs.length := e.symm
     rw [Qdb] at hA
     go_wp2_with fail
     refine ⟨⟨a + 1, oW, by go_num, hA, hG⟩, by simp [intOf]; omega⟩
  ·obtain rfl : a = g.evs.length := by omega
   have hA := hA.congr (G := Qfs g.evs) (fun p q hp hq => Qd6 hp hq)
   have b0 := hA.box.cell (j := 0) rfl
   have b1 := hA.box.cell (j := 1) rfl
   have hr := hA.fst
   have d0 := hr.cell (j := 0) rfl
   have d1 := hr.cell (j := 1) rfl
   have f0 := hr.frozen 0
   have f1 := hr.frozen 1
   go_wp2_with fail
   have hres := (hr.set 0 (.int .i64 (g.evs.length : Int))).set 1 (.slice xm ym zm)
   simp only [List.setIfInBounds_toArray, List.set_cons_zero, List.set_cons_succ] at hres
   (try simp only [Exit.inBlock, Exit.then])
   refine bodyPost_ret (Qbr rfl rfl hres) rfl ?_
   obtain ⟨hA1, hB1⟩ := hA.answer (r := 1) oW
   exact ⟨_, rbw, rfl, hA1, hB1⟩
theorem Qr0 (V : GrV) (g : Gr) (w : World) (h : GrR w V g) (hn : g.evs.length ≤ 256) : Calls Tryz.prog 63 #[V.val g] w fun e w' => ∃ M rb, e = .returned (.agg #[.int .i64 (g.evs.length : Int), M]) ∧ RefM w.heap.size w' M g.evs.length g.evs.length rb (Qed g.evs) ∧ Below w.heap.size w w' := by
 obtain ⟨Ve, Vr, Vc, Vm, Va, Vd, Vt⟩ := V
 obtain ⟨p1, k1, e1, hp, _⟩ := h.ev
 obtain ⟨p2, k2, e2, _, _⟩ := Qab h.rf
 obtain ⟨p4, k4, e4, _, _⟩ := Qab h.rmw
 obtain ⟨p5, k5, e5, _, _⟩ := Qab h.addr
 obtain ⟨p6, k6, e6, _, _⟩ := Qab h.dat
 obtain ⟨p7, k7, e7, _, _⟩ := Qab h.ctrl
 obtain ⟨p3, k3, e3, _, _⟩ := Qbg h.co
 dsimp only at e1 e2 e3 e4 e5 e6 e7
 subst e1 e2 e3 e4 e5 e6 e7
 have HV := Qa h
 have HP := Qa hp
 have HG0 := Qa ((Blk.new w 27 (g8 g p1 k1 p2 k2 p3 k3 p4 k4 p5 k5 p6 k6 p7 k7)).alloc (.cells #[.int .i64 0, .slice none 0 0] 51))
 have c1 : ((w.alloc (.cells (g8 g p1 k1 p2 k2 p3 k3 p4 k4 p5 k5 p6 k6 p7 k7) 27)).alloc (.cells #[.int .i64 0, .slice none 0 0] 51)).cell? ⟨w.heap.size, 1, none⟩ = some (.slice p1 g.evs.length k1) := HG0.out.cell rfl
 unfold GrV.val
 dsimp only
 clear h hp
 go_enter Tryz.func63, Tryz.ntmps63
 go_wp2_with fail
 refine (Qd g.evs.length hn _).mono ?_
 rintro e w1 ⟨M, rbw, rfl, hRM, hB1⟩
 obtain ⟨xm, ym, zm, rfl⟩ := hRM.slice
 have hA : MkAt w (w1.alloc (.cells #[.int .i64 (g.evs.length : Int), .slice xm ym zm] 51)) 2 [(1, #[.int .i64 0, .slice none 0 0])] w1.heap.size g.evs.length (.slice xm ym zm) rbw (Qaj (Qed g.evs) (fun _ _ => false) g.evs.length 0 0) := by
  refine MkAt.begin (((Below.refl _ w).alloc nW _).alloc sW _) sW ?_ (hRM.congr fun p q hp hq => ?_) hB1
  ·intro x hx
   simp only [List.mem_cons, List.not_mem_nil, or_false] at hx
   subst hx
   exact ⟨oW, Blk.new2 w _ _ _⟩
  ·rw [Qct]
 have hG := ((HG0.out.of_below hB1).alloc (.cells #[.int .i64 (g.evs.length : Int), .slice xm ym zm] 51))
 clear hRM hB1 HG0 c1
 go_wp2_with fail
 generalize w1.heap.size = B at *
 go_loopw [4] (fun i wr => ∃ a, a ≤ g.evs.length ∧ i = .int .i64 ((a : Nat) : Int) ∧ MkAt w wr 2 [(1, #[.int .i64 0, .slice none 0 0])] B g.evs.length (.slice xm ym zm) rbw (Qaj (Qed g.evs) (fun _ _ => false) g.evs.length a 0) ∧ Blk wr w.heap.size 27 (g8 g p1 k1 p2 k2 p3 k3 p4 k4 p5 k5 p6 k6 p7 k7)) (fun i _ => g.evs.length - (intOf i).toNat)
 case atStart => exact ⟨0, oW, rfl, hA, hG⟩
 case round =>
  clear hA hG
  obtain ⟨a, ha, rfl, hA, hG⟩ := hrel
  have c0 := hA.box.cell (j := 0) rfl
  by_cases hlt : a < g.evs.length
  ·go_wp2_with fail
   clear c0
   go_loopw [5] (fun i wr => ∃ b, b ≤ g.evs.length ∧ i = .int .i64 ((b : Nat) : Int) ∧ MkAt w wr 2 [(1, #[.int .i64 0, .slice none 0 0])] B g.evs.length (.slice xm ym zm) rbw (Qaj (Qed g.evs) (fun _ _ => false) g.evs.length a b) ∧ Blk wr w.heap.size 27 (g8 g p1 k1 p2 k2 p3 k3 p4 k4 p5 k5 p6 k6 p7 k7)) (fun i _ => g.evs.length - (intOf i).toNat)
   case atStart => exact ⟨0, oW, rfl, hA, hG⟩
   case round =>
    clear hA hG
    obtain ⟨b, hb, rfl, hA, hG⟩ := hrel
    generalize hwq : wr = wx at *
    clear hwq
    have c0 := hA.box.cell (j := 0) rfl
    by_cases hlt2 : b < g.evs.length
    ·obtain ⟨g2, cap2, e2, q2, _, n2, s0, s1, fz, q3⟩ := hA.ref.at_ hlt hlt2
     cases e2
     have A0 : (0 : Int) ≤ (a : Int) := by omega
     have A1 : (a : Int) < (g.evs.length : Int) := by omega
     have C0 : (0 : Int) ≤ (b : Int) := by omega
     have C1 : (b : Int) < (g.evs.length : Int) := by omega
     obtain ⟨s, o, rfl, hat⟩ := HP.out oW
     have HZ : Hid (∀ W F, MkAt w W 2 [(1, #[.int .i64 0, .slice none 0 0])] B g.evs.length (.slice (some ⟨g2, 0, none⟩) g.evs.length zm) rbw F → Blk W w.heap.size 27 #[.int .i64 g.cells, .slice (some ⟨s, o, none⟩) g.evs.length k1, .slice p2 g.rf.length k2, .slice p3 g.co.length k3, .slice p4 g.rmw.length k4, .slice p5 g.addr.length k5, .slice p6 g.dat.length k6, .slice p7 g.ctrl.length k7] → W.cell? ⟨B, 1, none⟩ = some (.slice (some ⟨g2, 0, none⟩) g.evs.length zm) ∧ W.cell? ⟨g2, a, none⟩ = some (hdr g.evs.length (rbw a)) ∧ W.cell? ⟨w.heap.size, 1, none⟩ = some (.slice (some ⟨s, o, none⟩) g.evs.length k1) ∧ W.cell? ⟨s, o + a * 5 + 1, none⟩ = some (.int .i64 (g.evs.getD a Ev.zero).k) ∧ W.cell? ⟨s, o + b * 5 + 1, none⟩ = some (.int .i64 (g.evs.getD b Ev.zero).k) ∧ W.cell? ⟨s, o + a * 5 + 2, none⟩ = some (.int .i64 (g.evs.getD a Ev.zero).l) ∧ W.cell? ⟨s, o + b * 5 + 2, none⟩ = some (.int .i64 (g.evs.getD b Ev.zero).l)) := fun W F hA hG => ⟨hA.box.cell rfl, (by obtain ⟨g3, cap3, e3, _, _, _, s0, _⟩ := hA.ref.at_ hlt hlt2; cases e3; exact s0), hG.cell rfl, (hat.below hA.below).c1 a _ (Qa9 hlt), (hat.below hA.below).c1 b _ (Qa9 hlt2), (hat.below hA.below).c2 a _ (Qa9 hlt), (hat.below hA.below).c2 b _ (Qa9 hlt2)⟩
     have hF : Qed g.evs a b = (((g.evs.getD a Ev.zero).k != 3) && (((g.evs.getD b Ev.zero).k != 3) && ((g.evs.getD a Ev.zero).l == (g.evs.getD b Ev.zero).l))) := by unfold Qed Qe4; rw [Bool.and_assoc, Bool.eq_iff_iff]; simp
     have HHA := Qa hA.drew
     have HHG := Qa hG.drew
     have HHF := Qa hF
     clear s0 s1 fz hA hG hat hF
     generalize (g.evs.getD a Ev.zero).k = ka at *
     generalize (g.evs.getD b Ev.zero).k = kb at *
     generalize (g.evs.getD a Ev.zero).l = la at *
     generalize (g.evs.getD b Ev.zero).l = lb at *
     obtain ⟨g4, cap4, e4, _, _, _, _, s5, f5, _⟩ := HHA.out.ref.at_ hlt hlt2
     cases e4
     go_upto_region 8 with fail
     clear c0
     cases qa : (ka != 3)
     ·have HHQ : Hid (Qed g.evs a b = false) := by rw [Hid, HHF.out, qa]; rfl
      refine wp_region_held_drew (S := fun W => W.cell? ⟨B, 1, none⟩ = some (.slice (some ⟨g2, 0, none⟩) g.evs.length zm) ∧ W.cell? ⟨g2, a, none⟩ = some (hdr g.evs.length (rbw a)) ∧ W.cell? ⟨w.heap.size, 1, none⟩ = some (.slice (some ⟨s, o, none⟩) g.evs.length k1) ∧ W.cell? ⟨s, o + a * 5 + 1, none⟩ = some (.int .i64 ka) ∧ W.cell? ⟨s, o + b * 5 + 1, none⟩ = some (.int .i64 kb) ∧ W.cell? ⟨s, o + a * 5 + 2, none⟩ = some (.int .i64 la) ∧ W.cell? ⟨s, o + b * 5 + 2, none⟩ = some (.int .i64 lb)) kW (HZ.out _ _ HHA.out HHG.out) (fun hHeld => ?_)
      refine tzW 0 rfl ?_
      refine tzW 1 rfl ?_
      refine tzW 2 rfl ?_
      refine tzW 3 rfl ?_
      refine tzW 4 rfl ?_
      refine tzW 5 rfl ?_
      refine tzW 6 rfl ?_
      refine tzW 7 rfl ?_
      refine tzW 8 rfl ?_
      refine tzW 9 rfl ?_
      refine tzW 10 rfl ?_
      refine tzW 11 rfl ?_
      refine tzW 12 rfl ?_
      refine tzW 13 rfl ?_
      refine tvW 14 rfl ?_
      refine tvW 15 rfl ?_
      refine tvW 16 rfl ?_
      refine tvW 17 rfl ?_
      refine tvW 18 rfl ?_
      refine tvW 19 rfl ?_
      refine tvW 20 rfl ?_
      refine tzW 21 rfl ?_
      refine tzW 22 rfl ?_
      refine tvW 23 rfl ?_
      refine tvW 24 rfl ?_
      refine tvW 25 rfl ?_
      refine tvW 26 rfl ?_
      refine tvW 27 rfl ?_
      refine tvW 28 rfl ?_
      refine tvW 29 rfl ?_
      refine tvW 30 rfl ?_
      refine tvW 31 rfl ?_
      refine tvW 32 rfl ?_
      refine tvW 33 rfl ?_
      refine tvW 34 rfl ?_
      refine tvW 35 rfl ?_
      refine tzW 36 rfl ?_
      refine tzW 37 rfl ?_
      refine wpAnyH_ready (rs := [38]) kW sW ?_
      refine AllReadyH.cons rfl (fun K hK => ?_) AllReadyH.nil
      simp only [z1, z2, z3]
      go_simp
      refine hK.out _ _ (HZ.out _ _ (HHA.out.put hlt hlt2 _) (HHG.out.setOther (by have := (HHA.out.ref.row a hlt).1; simp; omega) _)) (fun hHeld => ?_)
      clear hK K
      try simp only [zz]
      refine wpAnyH_done kW ?_ _
      go_wp2_with fail
      refine ⟨⟨b + 1, oW, by go_num, (HHA.out.put hlt hlt2 _).congr (fun p r _ _ => Qjm HHQ.out p r), HHG.out.setOther (by have := (HHA.out.ref.row a hlt).1; simp; omega) _⟩, by simp [intOf]; omega⟩
     ·cases qb : (kb != 3)
      ·have HHQ : Hid (Qed g.evs a b = false) := by rw [Hid, HHF.out, qa, qb]; rfl
       refine wp_region_held_drew (S := fun W => W.cell? ⟨B, 1, none⟩ = some (.slice (some ⟨g2, 0, none⟩) g.evs.length zm) ∧ W.cell? ⟨g2, a, none⟩ = some (hdr g.evs.length (rbw a)) ∧ W.cell? ⟨w.heap.size, 1, none⟩ = some (.slice (some ⟨s, o, none⟩) g.evs.length k1) ∧ W.cell? ⟨s, o + a * 5 + 1, none⟩ = some (.int .i64 ka) ∧ W.cell? ⟨s, o + b * 5 + 1, none⟩ = some (.int .i64 kb) ∧ W.cell? ⟨s, o + a * 5 + 2, none⟩ = some (.int .i64 la) ∧ W.cell? ⟨s, o + b * 5 + 2, none⟩ = some (.int .i64 lb)) kW (HZ.out _ _ HHA.out HHG.out) (fun hHeld => ?_)
       refine tzW 0 rfl ?_
       refine tzW 1 rfl ?_
       refine tzW 2 rfl ?_
       refine tzW 3 rfl ?_
       refine tzW 4 rfl ?_
       refine tzW 5 rfl ?_
       refine tzW 6 rfl ?_
       refine tzW 7 rfl ?_
       refine tzW 8 rfl ?_
       refine tzW 9 rfl ?_
       refine tzW 10 rfl ?_
       refine tzW 11 rfl ?_
       refine tzW 12 rfl ?_
       refine tzW 13 rfl ?_
       refine tzW 14 rfl ?_
       refine tzW 15 rfl ?_
       refine tzW 16 rfl ?_
       refine tzW 17 rfl ?_
       refine tzW 18 rfl ?_
       refine tzW 19 rfl ?_
       refine tzW 20 rfl ?_
       refine tzW 21 rfl ?_
       refine tzW 22 rfl ?_
       refine tvW 23 rfl ?_
       refine tvW 24 rfl ?_
       refine tvW 25 rfl ?_
       refine tvW 26 rfl ?_
       refine tvW 27 rfl ?_
       refine tvW 28 rfl ?_
       refine tvW 29 rfl ?_
       refine tvW 30 rfl ?_
       refine tvW 31 rfl ?_
       refine tvW 32 rfl ?_
       refine tvW 33 rfl ?_
       refine tvW 34 rfl ?_
       refine tvW 35 rfl ?_
       refine tzW 36 rfl ?_
       refine tzW 37 rfl ?_
       refine wpAnyH_ready (rs := [38]) kW sW ?_
       refine AllReadyH.cons rfl (fun K hK => ?_) AllReadyH.nil
       simp only [z1, z2, z3]
       go_simp
       refine hK.out _ _ (HZ.out _ _ (HHA.out.put hlt hlt2 _) (HHG.out.setOther (by have := (HHA.out.ref.row a hlt).1; simp; omega) _)) (fun hHeld => ?_)
       clear hK K
       try simp only [zz]
       refine wpAnyH_done kW ?_ _
       go_wp2_with fail
       refine ⟨⟨b + 1, oW, by go_num, (HHA.out.put hlt hlt2 _).congr (fun p r _ _ => Qjm HHQ.out p r), HHG.out.setOther (by have := (HHA.out.ref.row a hlt).1; simp; omega) _⟩, by simp [intOf]; omega⟩
      ·have HHQ : Hid (Qed g.evs a b = (la == lb)) := by rw [Hid, HHF.out, qa, qb]; rfl
       refine wp_region_held_drew (S := fun W => W.cell? ⟨B, 1, none⟩ = some (.slice (some ⟨g2, 0, none⟩) g.evs.length zm) ∧ W.cell? ⟨g2, a, none⟩ = some (hdr g.evs.length (rbw a)) ∧ W.cell? ⟨w.heap.size, 1, none⟩ = some (.slice (some ⟨s, o, none⟩) g.evs.length k1) ∧ W.cell? ⟨s, o + a * 5 + 1, none⟩ = some (.int .i64 ka) ∧ W.cell? ⟨s, o + b * 5 + 1, none⟩ = some (.int .i64 kb) ∧ W.cell? ⟨s, o + a * 5 + 2, none⟩ = some (.int .i64 la) ∧ W.cell? ⟨s, o + b * 5 + 2, none⟩ = some (.int .i64 lb)) kW (HZ.out _ _ HHA.out HHG.out) (fun hHeld => ?_)
       refine tzW 0 rfl ?_
       refine tzW 1 rfl ?_
       refine tzW 2 rfl ?_
       refine tzW 3 rfl ?_
       refine tzW 4 rfl ?_
       refine tzW 5 rfl ?_
       refine tzW 6 rfl ?_
       refine tzW 7 rfl ?_
       refine tzW 8 rfl ?_
       refine tzW 9 rfl ?_
       refine tzW 10 rfl ?_
       refine tzW 11 rfl ?_
       refine tzW 12 rfl ?_
       refine tzW 13 rfl ?_
       refine tzW 14 rfl ?_
       refine tzW 15 rfl ?_
       refine tzW 16 rfl ?_
       refine tzW 17 rfl ?_
       refine tzW 18 rfl ?_
       refine tzW 19 rfl ?_
       refine tzW 20 rfl ?_
       refine tzW 21 rfl ?_
       refine tzW 22 rfl ?_
       refine tzW 23 rfl ?_
       refine tzW 24 rfl ?_
       refine tzW 25 rfl ?_
       refine tzW 26 rfl ?_
       refine tzW 27 rfl ?_
       refine tzW 28 rfl ?_
       refine tzW 29 rfl ?_
       refine tzW 30 rfl ?_
       refine tzW 31 rfl ?_
       refine tzW 32 rfl ?_
       refine tzW 33 rfl ?_
       refine tzW 34 rfl ?_
       refine tzW 35 rfl ?_
       refine tzW 36 rfl ?_
       refine tzW 37 rfl ?_
       refine wpAnyH_ready (rs := [38]) kW sW ?_
       refine AllReadyH.cons rfl (fun K hK => ?_) AllReadyH.nil
       simp only [z1, z2, z3]
       go_simp
       refine hK.out _ _ (HZ.out _ _ (HHA.out.put hlt hlt2 _) (HHG.out.setOther (by have := (HHA.out.ref.row a hlt).1; simp; omega) _)) (fun hHeld => ?_)
       clear hK K
       try simp only [zz]
       refine wpAnyH_done kW ?_ _
       go_wp2_with fail
       refine ⟨⟨b + 1, oW, by go_num, (HHA.out.put hlt hlt2 _).congr (fun p r _ _ => Qjm HHQ.out p r), HHG.out.setOther (by have := (HHA.out.ref.row a hlt).1; simp; omega) _⟩, by simp [intOf]; omega⟩
    ·have e : g.evs.length = b := by omega
     have hA := hA
     obtain rfl : b = g.evs.length := e.symm
     rw [Qdb] at hA
     go_wp2_with fail
     refine ⟨⟨a + 1, oW, by go_num, hA, hG⟩, by simp [intOf]; omega⟩
  ·obtain rfl : a = g.evs.length := by omega
   have hA := hA.congr (G := Qed g.evs) (fun p q hp hq => Qd6 hp hq)
   have b0 := hA.box.cell (j := 0) rfl
   have b1 := hA.box.cell (j := 1) rfl
   have hr := hA.fst
   have d0 := hr.cell (j := 0) rfl
   have d1 := hr.cell (j := 1) rfl
   have f0 := hr.frozen 0
   have f1 := hr.frozen 1
   go_wp2_with fail
   have hres := (hr.set 0 (.int .i64 (g.evs.length : Int))).set 1 (.slice xm ym zm)
   simp only [List.setIfInBounds_toArray, List.set_cons_zero, List.set_cons_succ] at hres
   (try simp only [Exit.inBlock, Exit.then])
   refine bodyPost_ret (Qbr rfl rfl hres) rfl ?_
   obtain ⟨hA1, hB1⟩ := hA.answer (r := 1) oW
   exact ⟨_, rbw, rfl, hA1, hB1⟩
end Go.Proofs.YtdkogbfamdnheaaGreatDoor
