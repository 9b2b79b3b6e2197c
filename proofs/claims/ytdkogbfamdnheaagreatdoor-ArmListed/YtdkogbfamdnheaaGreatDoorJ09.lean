import Derived.Test.YtdkogbfamdnheaaGreatDoorJ07
import Derived.Test.YtdkogbfamdnheaaGreatDoorJ08
import Derived.RangeFuncBound
import Derived.Shelf.RegionOpen
import Derived.OwnWalkIn
import Derived.LoopNIn
import Derived.LoopIn
namespace Go.Proofs.YtdkogbfamdnheaaGreatDoor
open Go.RowKit Go.Shelf Sx
set_option maxRecDepth 100000
set_option maxHeartbeats 16000000
set_option linter.unusedSimpArgs false
set_option linter.unusedVariables false
attribute [local go_sem] Oper.semAt_some
structure Tab (w : World) : Prop where
 pos : 0 < w.heap.size
 cell : ∀ j, j < 64 → w.cell? ⟨0, j, none⟩ = some (.int .u8 ((Lib.deBruijn64tab.getD j 0 : Nat) : Int))
theorem Tab.below {w w' : World} (h : Tab w) {n : Nat} (hb : Below n w w') (hn : 0 < n) : Tab w' :=
 ⟨Nat.lt_of_lt_of_le h.pos hb.size, fun j hj => (hb.cell (p := ⟨0, j, none⟩) hn).trans (h.cell j hj)⟩
theorem Tab.step {w w' : World} (h : Tab w) (hb : Below w.heap.size w w') : Tab w' := h.below hb h.pos
theorem Tab.alloc {w : World} (h : Tab w) (o : Obj) : Tab (w.alloc o) := h.step (bW.alloc nW _)
theorem Tab.drew {w : World} (h : Tab w) : Tab w.drew := ⟨h.pos, h.cell⟩
theorem Tab.touch {w w' : World} {c : Nat} (h : Tab w) (ht : Touch c w w') (hc : 0 < c) : Tab w' := h.below (ht.below (n := 1) hc h.pos) oW
theorem Tab.set {w : World} (h : Tab w) {a : Addr} (ha : 0 < a.block) (v : Value) : Tab (w.setCell a v) := h.below (n := 1) (bW.setCell ha v) oW
theorem Qzl (x k idx : Nat) (w : World) (hx0 : ((x : Int) == 0) = false)
  (key : IntKind.u64.wrap (bits BinOp.and IntKind.u64 (x : Int) (IntKind.u64.wrap (-(x : Int))) * 285870213051353865) / 288230376151711744 = (idx : Int))
  (hi : idx < 64) (hk : k < 64) (hcell : w.cell? ⟨0, idx, none⟩ = some (.int .u8 k)) :
  Calls Tryz.prog 115 #[.int .u64 x] w fun e w' => e = .returned (.int .i64 k) ∧ w' = w := by
 go_enter Tryz.func115, Tryz.ntmps115
 go_wp2_with (simp only [key])
 go_ret
 exact ⟨rfl, rfl⟩
theorem QBl (x a : Nat) (hx : x < 18446744073709551616) (hx0 : x ≠ 0) (hlow : x &&& (18446744073709551616 - x) = a) :
  IntKind.u64.wrap (bits BinOp.and IntKind.u64 (x : Int) (IntKind.u64.wrap (-(x : Int))) * 285870213051353865) / 288230376151711744 = ((a * 285870213051353865 % 18446744073709551616 / 288230376151711744 : Nat) : Int) := by
 have e1 : IntKind.u64.wrap (-(x : Int)) = ((18446744073709551616 - x : Nat) : Int) := by rw [IntKind.wrap_u64]; omega
 rw [e1, bits_and_u64_nat x _ hx oW, hlow, IntKind.wrap_u64]
 omega
theorem Qxk (x : Nat) (hx : Hid (x < 2 ^ 64)) (hx0 : x ≠ 0) (w : World) (hT : Tab w) :
  Calls Tryz.prog 115 #[.int .u64 x] w fun e w' => e = .returned (.int .i64 (Lib.ctz 64 x)) ∧ w' = w := by
 obtain ⟨hlow, hk⟩ := Lib.lowest_bit 64 x hx0 hx.out
 obtain ⟨hi, htab⟩ := Lib.deBruijn64_at _ hk
 have hcell := hT.cell _ hi
 rw [htab] at hcell
 exact Qzl x _ _ w (by simp; omega) (QBl x _ hx.out hx0 hlow) hi hk hcell
abbrev Pt (R : Nat) := { p : Nat // p ∈ Qad R }
def Qbg {R : Nat} (l : List (Pt R)) : List Nat := l.map (·.1)
theorem Qdy {R : Nat} (l : List (Pt R)) (x : Pt R) : Qbg (l ++ [x]) = Qbg l ++ [x.1] := by simp [Qbg]
theorem Qdz (F : Fence) (n : Nat) (hf : F.fn 72) (hro : F.round = none) (R : Nat) (w : World) :
  CallsIn F n Tryz.prog 72 #[rv R] w fun e w' => e = .returned (.func (.func 114) #[] #[.pointer (some ⟨w.heap.size, 0, none⟩)]) ∧ w' = w.alloc (.cells (rcs R) 102) := by
 refine callsIn_of_wp Tryz.func72 rfl hf ?_ hro
 simp only [Tryz.ntmps72, List.size_toArray, List.length_cons, List.length_nil, Nat.reduceAdd, Nat.reduceSub, Array.replicate_succ, Array.replicate_zero, List.push_toArray, List.append_toArray, List.nil_append, List.cons_append]
 gi_wp2
 go_ret
 exact ⟨rfl, rfl⟩
theorem Qte (a b c d : Int) (w : World) : (Instr.index 102 (.agg #[.int .u64 a, .int .u64 b, .int .u64 c, .int .u64 d]) (.int .i64 0)).run Tryz.prog w = .ok (.int .u64 a) w := by kernel_rfl
theorem Qtf (a b c d : Int) (w : World) : (Instr.index 102 (.agg #[.int .u64 a, .int .u64 b, .int .u64 c, .int .u64 d]) (.int .i64 1)).run Tryz.prog w = .ok (.int .u64 b) w := by kernel_rfl
theorem Qtg (a b c d : Int) (w : World) : (Instr.index 102 (.agg #[.int .u64 a, .int .u64 b, .int .u64 c, .int .u64 d]) (.int .i64 2)).run Tryz.prog w = .ok (.int .u64 c) w := by kernel_rfl
theorem Qth (a b c d : Int) (w : World) : (Instr.index 102 (.agg #[.int .u64 a, .int .u64 b, .int .u64 c, .int .u64 d]) (.int .i64 3)).run Tryz.prog w = .ok (.int .u64 d) w := by kernel_rfl
theorem Qvk (R i : Nat) (h : i < 4) (w : World) : (Instr.index 102 (.agg #[.int .u64 ((wd R 0 : Nat) : Int), .int .u64 ((wd R 1 : Nat) : Int), .int .u64 ((wd R 2 : Nat) : Int), .int .u64 ((wd R 3 : Nat) : Int)]) (.int .i64 (i : Int))).run Tryz.prog w = .ok (.int .u64 ((wd R i : Nat) : Int)) w := by
 have : i = 0 ∨ i = 1 ∨ i = 2 ∨ i = 3 := by omega
 rcases this with rfl | rfl | rfl | rfl
 ·exact Qte _ _ _ _ w
 ·exact Qtf _ _ _ _ w
 ·exact Qtg _ _ _ _ w
 ·exact Qth _ _ _ _ w
theorem Qoo (x : Nat) (h : x < 2 ^ 64) (h0 : x ≠ 0) : bits BinOp.and IntKind.u64 (x : Int) (IntKind.u64.wrap ((x : Int) - 1)) = ((x &&& (x - 1) : Nat) : Int) := by
 rw [IntKind.wrap_u64, show ((x : Int) - 1) % 18446744073709551616 = (x : Int) - 1 from by omega]
 rw [show ((x : Int) - 1) = ((x - 1 : Nat) : Int) from by omega]
 exact u64_and_nat _ _ h oW
theorem Qti (R l Bn : Nat) (n : Nat) (hn : 1 ≤ n) (J Jx : List (Pt R) → World → Prop)
  (hY : ∀ pre x W, J pre W → pre.length < 257 → YieldAt Fence.wide (n - 1) Tryz.prog l #[.int .i64 (x.1 : Int)] W fun e W' =>
   (e = .returned (.bool true) ∧ J (pre ++ [x]) W' ∧ Below 1 W W') ∨ (e = .returned (.bool false) ∧ Jx (pre ++ [x]) W'))
  (W : World) (hBn : Blk W Bn 102 (rcs R)) (hT : Tab W) (h0 : J [] W) :
  CallsIn Fence.wide n Tryz.prog 114 #[.func (.yield l) #[] #[], .pointer (some ⟨Bn, 0, none⟩)] W fun e W' => (∃ v, e = .returned v) ∧
   ((∃ ys, Qbg ys = Qad R ∧ J ys W') ∨ (∃ pre, Qbg pre <+: Qad R ∧ Jx pre W')) := by
 have c0 := hBn.cell (Qbs (j := 0) oW)
 have c1 := hBn.cell (Qbs (j := 1) oW)
 have c2 := hBn.cell (Qbs (j := 2) oW)
 have c3 := hBn.cell (Qbs (j := 3) oW)
 refine callsIn_of_wp Tryz.func114 rfl trivial ?_ rfl
 simp only [Tryz.ntmps114, List.size_toArray, List.length_cons, List.length_nil, Nat.reduceAdd, Nat.reduceSub, Array.replicate_succ, Array.replicate_zero, List.push_toArray, List.append_toArray, List.nil_append, List.cons_append]
 gi_wp2
 clear c0 c1 c2 c3
 gi_loopw [6] (fun i wr => ∃ (k : Nat) (pre : List (Pt R)), k ≤ 4 ∧ i = .int .i64 k ∧ Qbg pre ++ Qga R k = Qad R ∧ J pre wr ∧ Tab wr)
  (fun i _ => 4 - (intOf i).toNat)
 case atStart => exact ⟨0, [], oW, rfl, by rw [Qp2]; rfl, h0, hT⟩
 case round =>
  obtain ⟨k, pre, hk, rfl, hx, hJ, hTr⟩ := hrel
  by_cases hlt : k < 4
  ·have hidx := Qvk R k hlt
   have HX : Hid (Qbg pre ++ Qga R k = Qad R) := hx
   clear hx
   have hd : decide ((k : Int) < 4) = true := decide_eq_true oW
   gi_wp2
   gi_loopw [4] (fun v wr => ∃ (x : Nat) (pre : List (Pt R)), v = .int .u64 x ∧ Hid (x < 2 ^ 64) ∧ Hid (Qbg pre ++ ((Qcq 64 x).map (k * 64 + ·) ++ Qga R (k + 1)) = Qad R) ∧ J pre wr ∧ Tab wr) (fun v _ => (intOf v).toNat)
   case atStart => exact ⟨_, pre, rfl, Qeu R k, (by rw [← HX.out, Qts R k hlt]; rfl), hJ, hTr⟩
   case round =>
    obtain ⟨x, pre2, rfl, hxl, hx2, hJ2, hT2⟩ := hrel
    by_cases hx0 : x = 0
    ·subst hx0
     gi_wp2
     refine ⟨⟨k + 1, pre2, oW, by go_num, ?_, hJ2, hT2⟩, by simp [intOf]; omega⟩
     have := hx2.out
     rwa [Qm, List.map_nil, List.nil_append] at this
    ·obtain ⟨hb1, hb2, hb3⟩ := Qzw x hx0 hxl.out
     have hk64 : Lib.ctz 64 x < 64 := by obtain ⟨_, _, h⟩ := Qn3 x hx0 hxl.out; exact h
     have hpeel := Qtr 64 x _ _ hk64 hb1 hb2 hb3
     have hcall : ∀ w0 : World, Tab w0 → Calls Tryz.prog 115 #[.int .u64 x] w0 fun e w' => e = .returned (.int .i64 (Lib.ctz 64 x)) ∧ w' = w0 := fun w0 ht => Qxk x hxl hx0 w0 ht
     generalize Lib.ctz 64 x = t at *
     have hpl := congrArg List.length hx2.out
     have hbl := Qjc R
     have hx3 : Qbg pre2 ++ ((k * 64 + t) :: ((Qcq 64 (x &&& (x - 1))).map (k * 64 + ·) ++ Qga R (k + 1))) = Qad R := by
      have := hx2.out; rw [hpeel] at this; exact this
     have hmem : k * 64 + t ∈ Qad R := by rw [← hx3]; simp
     obtain ⟨fn, tmps, assign, body, hy, hR⟩ := hY pre2 ⟨k * 64 + t, hmem⟩ wr hJ2 (by simp [Qbg] at hpl; omega)
     have Hand : Hid (_ = _) := Qoo x hxl.out hx0
     have HX3 : Hid (_ = _) := hx3
     have hlt2 := Qre x hx0
     have Hlt2 : Hid (x &&& (x - 1) < 2 ^ 64) := Nat.lt_trans hlt2 hxl.out
     have hxp : ((x : Int) != 0) = true := by simp; omega
     clear hpl hx3 hpeel hb1 hb2 hb3 hx2 hidx
     simp only [Int.natCast_add, Int.natCast_mul, Int.cast_ofNat_Int] at hy
     gi_wp2_with (refine ⟨trivial, ?_⟩; gi_at_call 115; refine (callsIn_wide.2 (hcall _ hT2)).mono ?_; rintro e w' ⟨rfl, rfl⟩)
     refine hR.mono ?_
     rintro e W3 (⟨rfl, hJ3, hk3⟩ | ⟨rfl, hJx3⟩)
     ·gi_wp2
      rw [Hand.out]
      refine ⟨⟨x &&& (x - 1), pre2 ++ [⟨k * 64 + t, hmem⟩], rfl, Hlt2, ?_, hJ3, hT2.below hk3 oW⟩, by simp [intOf]; omega⟩
      show _ = _
      rw [Qdy, List.append_assoc]
      exact HX3.out
     ·gi_wp2
      refine bodyPost_ret (results_none rfl _ _ _) rfl ?_
      refine ⟨⟨_, rfl⟩, .inr ⟨pre2 ++ [⟨k * 64 + t, hmem⟩], ?_, hJx3⟩⟩
      refine ⟨(Qcq 64 (x &&& (x - 1))).map (k * 64 + ·) ++ Qga R (k + 1), ?_⟩
      rw [Qdy, List.append_assoc]
      exact HX3.out
  ·obtain rfl : k = 4 := by omega
   gi_wp2
   go_end0
   exact ⟨⟨_, rfl⟩, .inl ⟨pre, by simpa [Qga] using hx, hJ⟩⟩
theorem Qcj (R Bn : Nat) (n : Nat) (hn : 1 ≤ n) (w : World) (hBn : Blk w Bn 102 (rcs R)) (hT : Tab w) :
  SeqStopsK Fence.wide n Tryz.prog 114 #[.pointer (some ⟨Bn, 0, none⟩)] (fun x : Pt R => #[Value.int .i64 (x.1 : Int)]) (Below 1) (fun ys => Qbg ys = Qad R) (fun pre => Qbg pre <+: Qad R) 257 w := fun l J Jx W hW _ _ hY h0 =>
 Qti R l Bn n hn J Jx hY W (hBn.of_below hW) (hT.step hW) h0
end Go.Proofs.YtdkogbfamdnheaaGreatDoor
namespace Go.Proofs.YtdkogbfamdnheaaGreatDoor
open Go.RowKit Go.Shelf Sx
set_option maxRecDepth 100000
set_option maxHeartbeats 16000000
set_option linter.unusedSimpArgs false
set_option linter.unusedVariables false
attribute [local go_sem] Oper.semAt_some
theorem Qop {n : Nat} {w w' : World} (h : Below n w.drew w') : Below n w w' := ⟨h.os, h.tape, h.output, h.size, h.block⟩
theorem Qbz {w w' : World} (h : Below w.drew.heap.size w.drew w') : Below w.heap.size w w' := ⟨h.os, h.tape, h.output, h.size, h.block⟩
theorem Blk.putObj {w : World} {b D : Nat} {t : TypeId} {cs : Array Value} {o : Obj} (h : Blk w b t cs) (hD : w.heap[D]? = some o) (ho : o.isCells = false) (o' : Obj) : Blk (w.putObj D o') b t cs := by
 have : b ≠ D := by
  rintro rfl
  have := h.symm.trans hD
  cases this
  cases ho
 exact (World.putObj_heap_other this).trans h
theorem KeepsOthers.setRow (W : World) (b : Nat) (o1 o2 o3 o4 : Nat) (v1 v2 v3 v4 : Value) : KeepsOthers W ((((W.setCell ⟨b, o1, none⟩ v1).setCell ⟨b, o2, none⟩ v2).setCell ⟨b, o3, none⟩ v3).setCell ⟨b, o4, none⟩ v4) :=
 (((KeepsOthers.setCell _ _ _).trans (KeepsOthers.setCell _ _ _)).trans (KeepsOthers.setCell _ _ _)).trans (KeepsOthers.setCell _ _ _)
theorem Qa0 {n : Nat} {a W : World} (h : Below n a W) {b : Nat} (hb : n ≤ b) (o1 o2 o3 o4 : Nat) (v1 v2 v3 v4 : Value) : Below n a ((((W.setCell ⟨b, o1, none⟩ v1).setCell ⟨b, o2, none⟩ v2).setCell ⟨b, o3, none⟩ v3).setCell ⟨b, o4, none⟩ v4) :=
 (((h.setCell hb _).setCell hb _).setCell hb _).setCell hb _
theorem Blk.otherRow {w : World} {b c : Nat} {t : TypeId} {cs : Array Value} (h : Blk w b t cs) (hb : b ≠ c) (o1 o2 o3 o4 : Nat) (v1 v2 v3 v4 : Value) : Blk ((((w.setCell ⟨c, o1, none⟩ v1).setCell ⟨c, o2, none⟩ v2).setCell ⟨c, o3, none⟩ v3).setCell ⟨c, o4, none⟩ v4) b t cs :=
 (((h.setOther hb _).setOther hb _).setOther hb _).setOther hb _
theorem IsRel.otherRow {w : World} {b c d : Nat} {L : List Nat} (h : IsRel w b c L) (h1 : b ≠ d) (h2 : c ≠ d) (o1 o2 o3 o4 : Nat) (v1 v2 v3 v4 : Value) : IsRel ((((w.setCell ⟨d, o1, none⟩ v1).setCell ⟨d, o2, none⟩ v2).setCell ⟨d, o3, none⟩ v3).setCell ⟨d, o4, none⟩ v4) b c L :=
 (((h.other h1 h2 _).other h1 h2 _).other h1 h2 _).other h1 h2 _
theorem Qfp {β : Type} {B : Nat} {I : β → World → Prop} (hs : ∀ s W, I s W → B ≤ W.heap.size) (h : ∀ s W W', I s W → Below B W W' → I s W') : OwnFrom B I :=
 fun s W W' _ hi hg hr => h s W W' hi ((Below.refl B W).grown hg (hs s W hi) (fun k e => (hr k e).1))
theorem Qdn {β : Type} {B : Nat} : OwnFrom B (fun (_ : β) (_ : World) => False) := fun _ _ _ _ h _ _ => h
theorem Blk.new4 (w : World) (o o' o'' : Obj) (t : TypeId) (cs : Array Value) : Blk ((((w.alloc o).alloc o').alloc o'').alloc (.cells cs t)) (w.heap.size + 1 + 1 + 1) t cs := by
 have := Blk.new3 (w.alloc o) o' o'' t cs
 rwa [World.size_alloc] at this
theorem Blk.new5 (w : World) (o o' o'' o3 : Obj) (t : TypeId) (cs : Array Value) : Blk (((((w.alloc o).alloc o').alloc o'').alloc o3).alloc (.cells cs t)) (w.heap.size + 1 + 1 + 1 + 1) t cs := by
 have := Blk.new4 (w.alloc o) o' o'' o3 t cs
 rwa [World.size_alloc] at this
theorem Qh9 (A B : Nat) : rcs A ++ rcs B = #[.int .u64 ((wd A 0 : Nat) : Int), .int .u64 ((wd A 1 : Nat) : Int), .int .u64 ((wd A 2 : Nat) : Int), .int .u64 ((wd A 3 : Nat) : Int), .int .u64 ((wd B 0 : Nat) : Int), .int .u64 ((wd B 1 : Nat) : Int), .int .u64 ((wd B 2 : Nat) : Int), .int .u64 ((wd B 3 : Nat) : Int)] := by simp [rcs]
theorem Blk.row {w : World} {b R : Nat} (h : Blk w b 102 (rcs R)) :
  (w.cell? ⟨b, 0, none⟩ = some (.int .u64 ((wd R 0 : Nat) : Int)) ∧ w.cell? ⟨b, 1, none⟩ = some (.int .u64 ((wd R 1 : Nat) : Int)) ∧ w.cell? ⟨b, 2, none⟩ = some (.int .u64 ((wd R 2 : Nat) : Int)) ∧ w.cell? ⟨b, 3, none⟩ = some (.int .u64 ((wd R 3 : Nat) : Int))) ∧
  (w.frozen? ⟨b, 0, none⟩ = false ∧ w.frozen? ⟨b, 1, none⟩ = false ∧ w.frozen? ⟨b, 2, none⟩ = false ∧ w.frozen? ⟨b, 3, none⟩ = false) ∧ b < w.heap.size :=
 ⟨⟨h.cell (Qbs oW), h.cell (Qbs oW), h.cell (Qbs oW), h.cell (Qbs oW)⟩, ⟨h.frozen _, h.frozen _, h.frozen _, h.frozen _⟩, h.lt⟩
theorem Blk.setRow {w : World} {b R : Nat} (h : Blk w b 102 (rcs R)) (S : Nat) :
  Blk ((((w.setCell ⟨b, 0, none⟩ (.int .u64 ((wd S 0 : Nat) : Int))).setCell ⟨b, 1, none⟩ (.int .u64 ((wd S 1 : Nat) : Int))).setCell ⟨b, 2, none⟩ (.int .u64 ((wd S 2 : Nat) : Int))).setCell ⟨b, 3, none⟩ (.int .u64 ((wd S 3 : Nat) : Int))) b 102 (rcs S) := by
 have := (((h.set 0 (.int .u64 ((wd S 0 : Nat) : Int))).set 1 (.int .u64 ((wd S 1 : Nat) : Int))).set 2 (.int .u64 ((wd S 2 : Nat) : Int))).set 3 (.int .u64 ((wd S 3 : Nat) : Int))
 simpa [rcs] using this
def Qaj (L : List Nat) (l : List Nat) : Nat := l.foldl (fun s p => s ||| gr L p) 0
theorem Qoq (L l : List Nat) (p : Nat) : Qaj L (l ++ [p]) = Qaj L l ||| gr L p := by simp [Qaj]
theorem Qzm (b c : Nat) (L : List Nat) (S : Nat) (w : World) (h : IsRel w b c L) (hT : Tab w) :
  CallsIn Fence.wide 6 Tryz.prog 154 #[pv b, rv S] w fun e w' => e = .returned (rv (Qaj L (Qad S))) ∧ Below w.heap.size w w' := by
 refine callsIn_of_wp_marks Tryz.func154 rfl trivial ?_ rfl
 simp only [Tryz.ntmps154, List.size_toArray, List.length_cons, List.length_nil, Nat.reduceAdd, Nat.reduceSub, Array.replicate_succ, Array.replicate_zero, List.push_toArray, List.append_toArray, List.nil_append, List.cons_append]
 gi_wp2_with (refine ⟨trivial, ?_⟩; gi_at_call 72; refine (Qdz Fence.wide _ trivial rfl S _).mono ?_; rintro e w' ⟨rfl, rfl⟩)
 have hb := h.head.lt
 have hc := h.rows.lt
 refine wpIn_rangeFunc_ownF rfl oW (gf := 114) (lb := #[.pointer (some ⟨w.heap.size + 1 + 1 + 1 + 1, 0, none⟩)]) rfl trivial (enters_of Tryz.func114 kW rfl)
  (Qcj S (w.heap.size + 1 + 1 + 1 + 1) (6 - 1) oW _ ?hB ?hT) belowK_t (belowK_b sW) bW (fun _ => rfl)
  (fun pre W => w.heap.size + 1 + 1 + 1 + 1 + 1 ≤ W.heap.size ∧ Blk W w.heap.size 42 #[pv b] ∧ Blk W (w.heap.size + 1 + 1 + 1) 102 (rcs (Qaj L (Qbg pre))) ∧ Blk W (w.heap.size + 1 + 1) 102 #[.int .u64 0, .int .u64 0, .int .u64 0, .int .u64 0] ∧ IsRel W b c L ∧ Tab W ∧ Below w.heap.size w W)
  (fun _ _ _ => False) ?hI (fun _ => Qdn) ?h0
  (fun x => { tmps := #[pv b, rv S, pv w.heap.size, pv (w.heap.size + 1), pv (w.heap.size + 1 + 1), pv (w.heap.size + 1 + 1 + 1), .int .i64 (x.1 : Int), rv S, .func (.func 114) #[] #[.pointer (some ⟨w.heap.size + 1 + 1 + 1 + 1, 0, none⟩)], .int .i64 (x.1 : Int), undef, undef, undef, undef, undef, undef, undef], defers := [] }) ?assign ?body ?done ?stop
 case hB => exact Blk.new5 _ _ _ _ _ _ _
 case hT => exact ((((hT.alloc _).alloc _).alloc _).alloc _).alloc _
 case hI =>
  refine Qfp (fun s W hi => by simpa using hi.1) ?_
  rintro s W W' ⟨h1, h2, h3, h4, h5, h6, h7⟩ hb'
  have hb' : Below (w.heap.size + 1 + 1 + 1 + 1 + 1) W W' := by simpa using hb'
  exact ⟨Nat.le_trans h1 hb'.size, h2.below hb' oW, h3.below hb' oW, h4.below hb' oW, h5.below' hb' oW oW, h6.below hb' oW, h7.trans (hb'.mono oW)⟩
 case h0 =>
  refine ⟨by simp, ((((Blk.new w _ _).alloc _).alloc _).alloc _).alloc _, ?_, ?_, ((((h.alloc _).alloc _).alloc _).alloc _).alloc _, ((((hT.alloc _).alloc _).alloc _).alloc _).alloc _, ?_⟩
  ·rw [show Qaj L (Qbg (R := S) []) = 0 from rfl, Qd4]
   exact (Blk.new4 w _ _ _ _ _).alloc _
  ·exact ((Blk.new3 w _ _ _ _).alloc _).alloc _
  ·exact (((((Below.refl _ w).alloc nW _).alloc sW _).alloc (by simp; omega) _).alloc (by simp; omega) _).alloc (by simp; omega) _
 case assign =>
  intro l x W K hK
  gi_wp2
  exact hK
 case body =>
  rintro l pre x W ⟨h1, h2, h3, h4, h5, h6, h7⟩ _
  have k0 := h2.cell (j := 0) rfl
  obtain ⟨⟨k1, k2, k3, k4⟩, _, k5⟩ := h3.row
  have hmx : Tryz.prog.follows .mixedOrders = true := by kernel_rfl
  gi_wp2
  gi_region_with_o (first | (refine ⟨trivial, ?_⟩; gi_at_call 170; refine (CallsIn.inRound l (callsIn_wide.2 (Qeo b c L x.1 _ h5.drew))).mono ?_; rintro e w1 ⟨rfl, hB1⟩; have h3a := h3.drew.of_below hB1; obtain ⟨⟨a0, a1, a2, a3⟩, _, a5⟩ := h3a.row) | (refine ⟨trivial, ?_⟩; gi_at_call 67; refine (CallsIn.inRound l (callsIn_wide.2 (Qe8 (Qaj L (Qbg pre)) (gr L x.1) _ _ (by rw [Qh9]; exact Blk.new _ _ _)))).mono ?_; rintro e w2 ⟨rfl, hB2⟩; have h3b := (h3a.alloc _).of_below hB2; obtain ⟨⟨b0, b1, b2, b3⟩, ⟨f0, f1, f2, f3⟩, b5⟩ := h3b.row))
  all_goals
   gi_wp2
   have hBW : Below W.heap.size W w2 := ((Qbz hB1).alloc (Qbz hB1).size _).trans (hB2.mono (by simpa using Nat.le_succ_of_le (Qbz hB1).size))
   refine ⟨(Qfh hBW).trans (KeepsOthers.setRow _ _ _ _ _ _ _ _ _ _), Qa0 (hBW.mono oW) oW _ _ _ _ _ _ _ _, ?_⟩
   refine ⟨Nat.le_trans h1 (by simpa [World.setCell] using hBW.size), (h2.of_below hBW).otherRow oW _ _ _ _ _ _ _ _, ?_, (h4.of_below hBW).otherRow oW _ _ _ _ _ _ _ _, (h5.below hBW).otherRow oW oW _ _ _ _ _ _ _ _, (h6.step hBW).below (n := 1) (Qa0 bW oW _ _ _ _ _ _ _ _) oW, Qa0 (h7.trans (hBW.mono h7.size)) oW _ _ _ _ _ _ _ _⟩
   rw [Qdy, Qoq]
   exact h3b.setRow _
 case done =>
  rintro D ys W hD hys ⟨h1, h2, h3, h4, h5, h6, h7⟩ hK
  rw [hys] at h3
  rw [← Qd4] at h4
  obtain ⟨⟨k1, k2, k3, k4⟩, _, k5⟩ := h3.row
  obtain ⟨⟨m1, m2, m3, m4⟩, ⟨g1, g2, g3, g4⟩, m5⟩ := h4.row
  have hR := h4.setRow (Qaj L (Qad S))
  have hK' := (KeepsOthers.setRow W (w.heap.size + 1 + 1) 0 1 2 3 (.int .u64 ((wd (Qaj L (Qad S)) 0 : Nat) : Int)) (.int .u64 ((wd (Qaj L (Qad S)) 1 : Nat) : Int)) (.int .u64 ((wd (Qaj L (Qad S)) 2 : Nat) : Int)) (.int .u64 ((wd (Qaj L (Qad S)) 3 : Nat) : Int))).same D _ hK rfl
  gi_wp2
  refine ⟨by simp, .inl ⟨_, _, rfl, run_takeDeferred hK', ?_⟩⟩
  obtain ⟨⟨r1, r2, r3, r4⟩, _, _⟩ := (hR.putObj hK' rfl (.deferred none)).row
  refine ⟨rv (Qaj L (Qad S)), ?_, rfl, ?_⟩
  ·simp [results, Tryz.f154, go_sem, r1, r2, r3, r4]
  ·exact (Qa0 h7 oW _ _ _ _ _ _ _ _).trans (belowK_b (w := w) nW _ D _ _ (by simp at hD; omega) hK' rfl rfl)
 case stop =>
  rintro D c pre W _ _ h _
  exact h.elim
theorem Qin (b c : Nat) (L : List Nat) (S : Nat) (w : World) (h : IsRel w b c L) (hT : Tab w) :
  Calls Tryz.prog 154 #[pv b, rv S] w fun e w' => e = .returned (rv (Qaj L (Qad S))) ∧ Below w.heap.size w w' := callsIn_wide.1 (Qzm b c L S w h hT)
end Go.Proofs.YtdkogbfamdnheaaGreatDoor
namespace Go.Proofs.YtdkogbfamdnheaaGreatDoor
open Go.RowKit Go.Shelf Sx
set_option maxRecDepth 100000
set_option maxHeartbeats 16000000
set_option linter.unusedSimpArgs false
set_option linter.unusedVariables false
structure Made (w w' : World) (b c : Nat) (L : List Nat) : Prop where
 rel : IsRel w' b c L
 hb : w.heap.size ≤ b
 hc : w.heap.size ≤ c
 below : Below w.heap.size w w'
theorem Made.step {w w' w'' : World} {b c : Nat} {L : List Nat} (h : Made w w' b c L) (hB : Below w'.heap.size w' w'') : Made w w'' b c L :=
 ⟨h.rel.below hB, h.hb, h.hc, h.below.trans (hB.mono h.below.size)⟩
theorem Made.alloc {w w' : World} {b c : Nat} {L : List Nat} (h : Made w w' b c L) (o : Obj) : Made w (w'.alloc o) b c L := h.step (bW.alloc nW _)
theorem Made.drew {w w' : World} {b c : Nat} {L : List Nat} (h : Made w w' b c L) : Made w w'.drew b c L := ⟨h.rel.drew, h.hb, h.hc, h.below.drew⟩
theorem Made.touch {w w' w'' : World} {b c : Nat} {L L' : List Nat} (h : Made w w' b c L) (hr : IsRel w'' b c L') (ht : Touch c w' w'') : Made w w'' b c L' :=
 ⟨hr, h.hb, h.hc, h.below.trans (ht.below h.hc h.below.size)⟩
theorem Made.put {w w' : World} {b c : Nat} {L : List Nat} (h : Made w w' b c L) {i R : Nat} (hi : i < L.length) (hR : R < 2 ^ L.length) :
  Made w ((((w'.setCell ⟨c, i * 4, none⟩ (.int .u64 ((wd R 0 : Nat) : Int))).setCell ⟨c, i * 4 + 1, none⟩ (.int .u64 ((wd R 1 : Nat) : Int))).setCell ⟨c, i * 4 + 2, none⟩ (.int .u64 ((wd R 2 : Nat) : Int))).setCell ⟨c, i * 4 + 3, none⟩ (.int .u64 ((wd R 3 : Nat) : Int))) b c (L.set i R) :=
 ⟨h.rel.put hi hR, h.hb, h.hc, Qa0 h.below h.hc _ _ _ _ _ _ _ _⟩
theorem Made.old {w w' : World} {b c b' c' : Nat} {L L' : List Nat} (h : Made w w' b c L) (k : IsRel w b' c' L') : IsRel w' b' c' L' := k.below h.below
theorem gr_lt {L : List Nat} {n i : Nat} (h : ∀ R ∈ L, R < 2 ^ n) : gr L i < 2 ^ n := by
 by_cases hi : i < L.length
 ·exact h _ (List.mem_of_getElem? (Qbf hi))
 ·rw [Qqa hi]; exact Nat.two_pow_pos n
theorem IsRel.gr_lt {w : World} {b c : Nat} {L : List Nat} (h : IsRel w b c L) (i : Nat) : gr L i < 2 ^ L.length := Go.Proofs.YtdkogbfamdnheaaGreatDoor.gr_lt h.low
def Qbv (Ls : List (List Nat)) : Nat := Ls.foldl (fun n L => max n L.length) 0
theorem Qpu (Ls : List (List Nat)) (L : List Nat) : Qbv (Ls ++ [L]) = max (Qbv Ls) L.length := by simp [Qbv]
def Qck (A L : List Nat) (k : Nat) : List Nat := A.mapIdx (fun p R => if p < k then R ||| gr L p else R)
def Qa1 (Ls : List (List Nat)) : List Nat := Ls.foldl (fun A L => Qck A L L.length) (List.replicate (Qbv Ls) 0)
theorem Qa4 (A L : List Nat) (k : Nat) : (Qck A L k).length = A.length := by simp [Qck]
theorem Qgl {A L : List Nat} {k p : Nat} (hp : p < A.length) : (Qck A L k)[p]? = some (if p < k then gr A p ||| gr L p else gr A p) := by
 rw [Qck, List.getElem?_mapIdx, Qbf hp]; rfl
theorem Qzn {A L : List Nat} {k p : Nat} (hp : p < A.length) : gr (Qck A L k) p = if p < k then gr A p ||| gr L p else gr A p := Qge (Qgl hp)
theorem Qvl (A L : List Nat) : Qck A L 0 = A := by
 apply List.ext_getElem?
 intro p
 by_cases hp : p < A.length
 ·rw [Qgl hp, if_neg oW, Qbf hp]
 ·rw [List.getElem?_eq_none (by rw [Qa4]; omega), List.getElem?_eq_none oW]
theorem Qvm {A L : List Nat} {p : Nat} (hp : p < A.length) : (Qck A L p).set p (gr A p ||| gr L p) = Qck A L (p + 1) := by
 apply List.ext_getElem?
 intro q
 rw [List.getElem?_set, Qa4]
 by_cases hq : q < A.length
 ·rw [Qgl hq, Qgl hq]
  by_cases e : p = q
  ·subst e; rw [if_pos rfl, if_pos hp, if_pos oW]
  ·rw [if_neg e]
   by_cases h1 : q < p
   ·rw [if_pos h1, if_pos oW]
   ·rw [if_neg h1, if_neg oW]
 ·rw [if_neg oW, List.getElem?_eq_none (by rw [Qa4]; omega), List.getElem?_eq_none (by rw [Qa4]; omega)]
def Qem (n : Nat) (Ls : List (List Nat)) : List Nat := Ls.foldl (fun A L => Qck A L L.length) (List.replicate n 0)
theorem Qq9 (n : Nat) (Ls : List (List Nat)) (L : List Nat) : Qem n (Ls ++ [L]) = Qck (Qem n Ls) L L.length := by simp [Qem]
theorem Qor (n : Nat) (Ls : List (List Nat)) : (Qem n Ls).length = n := by
 unfold Qem
 have : ∀ A : List Nat, (Ls.foldl (fun A L => Qck A L L.length) A).length = A.length := by
  induction Ls with
  | nil => intro A; rfl
  | cons L Ls ih => intro A; rw [List.foldl_cons, ih, Qa4]
 rw [this, List.length_replicate]
theorem Qtj {Ls : List (List Nat)} {L : List Nat} (h : L ∈ Ls) : L.length ≤ Qbv Ls := by
 unfold Qbv
 have mono : ∀ (Ls : List (List Nat)) (n : Nat), n ≤ Ls.foldl (fun n L => max n L.length) n := by
  intro Ls
  induction Ls with
  | nil => intro n; exact Nat.le_refl _
  | cons M Ls ih => intro n; exact Nat.le_trans (Nat.le_max_left _ _) (ih _)
 have : ∀ (Ls : List (List Nat)) (n : Nat), L ∈ Ls → L.length ≤ Ls.foldl (fun n L => max n L.length) n := by
  intro Ls
  induction Ls with
  | nil => intro n h; cases h
  | cons M Ls ih =>
   intro n h
   rcases List.mem_cons.1 h with rfl | h
   ·exact Nat.le_trans (Nat.le_max_right _ _) (mono _ _)
   ·exact ih _ h
 exact this Ls 0 h
structure RelsAt (w : World) (s : Nat) (rs : List (Nat × Nat × List Nat)) : Prop where
 cell : ∀ (i : Nat) (r : Nat × Nat × List Nat), rs[i]? = some r → w.cell? ⟨s, i, none⟩ = some (pv r.1)
 lt : s < w.heap.size
 rel : ∀ (i : Nat) (r : Nat × Nat × List Nat), rs[i]? = some r → IsRel w r.1 r.2.1 r.2.2
theorem RelsAt.below {w w' : World} {s : Nat} {rs : List (Nat × Nat × List Nat)} (h : RelsAt w s rs) (hb : Below w.heap.size w w') : RelsAt w' s rs :=
 ⟨fun i r hr => (hb.cell (p := ⟨s, i, none⟩) h.lt).trans (h.cell i r hr), Nat.lt_of_lt_of_le h.lt hb.size, fun i r hr => (h.rel i r hr).below hb⟩
theorem Qfq (b c : Nat) (L : List Nat) (w : World) (h : IsRel w b c L) :
  Calls Tryz.prog 21 #[pv b] w fun e w' => e = .returned (.int .i64 L.length) ∧ w = w' := (Qoa b c L w h).mono fun _ _ h => ⟨h.1, h.2.symm⟩
theorem Qg4 (n : Nat) (hn : n ≤ 256) (w : World) :
  Calls Tryz.prog 66 #[.int .i64 n] w fun e w' => ∃ b c, e = .returned (pv b) ∧ Made w w' b c (List.replicate n 0) := by
 refine (Qfw n w).mono ?_
 rw [show Qbi (n : Int) = n from by unfold Qbi; omega]
 rintro e w' ⟨b, c, rfl, h1, h2, h3, h4⟩
 exact ⟨b, c, rfl, h1, h2, h3, h4⟩
theorem Qo5 {w : World} {b d : Nat} (h : b ≠ d) (o o1 o2 o3 o4 : Nat) (v1 v2 v3 v4 : Value) : ((((w.setCell ⟨d, o1, none⟩ v1).setCell ⟨d, o2, none⟩ v2).setCell ⟨d, o3, none⟩ v3).setCell ⟨d, o4, none⟩ v4).cell? ⟨b, o, none⟩ = w.cell? ⟨b, o, none⟩ :=
 World.cell?_of_block ((((Below.heap_setCell _ _ _ _ h).trans (Below.heap_setCell _ _ _ _ h)).trans (Below.heap_setCell _ _ _ _ h)).trans (Below.heap_setCell _ _ _ _ h))
theorem Qpv (a b : Nat) : (if a < b then (b : Int) else (a : Int)) = ((max a b : Nat) : Int) := by split <;> omega
def Qa2 (n : Nat) (f : Nat → Nat) (k : Nat) : List Nat := (List.range n).map (fun p => if p < k then f p else 0)
theorem Qaw (n : Nat) (f : Nat → Nat) (k : Nat) : (Qa2 n f k).length = n := by simp [Qa2]
theorem Qev {n : Nat} {f : Nat → Nat} {k p : Nat} (hp : p < n) : (Qa2 n f k)[p]? = some (if p < k then f p else 0) := by simp [Qa2, hp]
theorem Qio (n : Nat) (f : Nat → Nat) : Qa2 n f 0 = List.replicate n 0 := by
 apply List.ext_getElem?
 intro p
 by_cases hp : p < n
 ·rw [Qev hp]; simp [hp]
 ·rw [List.getElem?_eq_none (by rw [Qaw]; omega), List.getElem?_eq_none (by simp; omega)]
theorem Qip {n : Nat} {f : Nat → Nat} {k : Nat} (hk : k < n) : (Qa2 n f k).set k (f k) = Qa2 n f (k + 1) := by
 apply List.ext_getElem?
 intro q
 rw [List.getElem?_set, Qaw]
 by_cases hq : q < n
 ·rw [Qev hq, Qev hq]
  by_cases e : k = q
  ·subst e; rw [if_pos rfl, if_pos hk, if_pos oW]
  ·rw [if_neg e]
   by_cases h1 : q < k
   ·rw [if_pos h1, if_pos oW]
   ·rw [if_neg h1, if_neg oW]
 ·rw [if_neg oW, List.getElem?_eq_none (by rw [Qaw]; omega), List.getElem?_eq_none (by rw [Qaw]; omega)]
theorem Qhn {L : List Nat} {n : Nat} (h : ∀ R ∈ L, R < 2 ^ n) (l : List Nat) : Qaj L l < 2 ^ n := by
 unfold Qaj
 have : ∀ (l : List Nat) (s : Nat), s < 2 ^ n → l.foldl (fun s p => s ||| gr L p) s < 2 ^ n := by
  intro l
  induction l with
  | nil => intro s hs; exact hs
  | cons p l ih => intro s hs; exact ih _ (Qo7 hs (gr_lt h))
 exact this l 0 (Nat.two_pow_pos n)
def Qe4 (A B : List Nat) : List Nat := Qa2 (max A.length B.length) (fun p => Qaj B (Qad (gr A p))) A.length
def Qc4 (A B : List Nat) : List Nat := Qa2 (max A.length B.length) (fun p => gr A p &&& gr B p) (max A.length B.length)
def Qen (A B : List Nat) : List Nat := Qa2 (max A.length B.length) (fun p => Qcx (gr A p) (gr B p)) (max A.length B.length)
theorem Qa {p : Prop} (h : p) : Hid p := h
def ofK (n : Nat) (l : List (Int × Int)) : List Nat := l.foldl (fun A x => Qbc A x.1 x.2 true) (List.replicate n 0)
theorem Qxl (n : Nat) (l : List (Int × Int)) (x : Int × Int) : ofK n (l ++ [x]) = Qbc (ofK n l) x.1 x.2 true := by simp [ofK]
def ofL (n : Int) (l : List (Int × Int)) : List Nat := ofK (Qbi n) l
structure PairsAt (w : World) (s o : Nat) (l : List (Int × Int)) : Prop where
 lt : s < w.heap.size
 fst : ∀ (i : Nat) (x : Int × Int), l[i]? = some x → w.cell? ⟨s, o + i * 2, none⟩ = some (.int .i64 x.1)
 snd : ∀ (i : Nat) (x : Int × Int), l[i]? = some x → w.cell? ⟨s, o + i * 2 + 1, none⟩ = some (.int .i64 x.2)
theorem PairsAt.below {w w' : World} {s o : Nat} {l : List (Int × Int)} (h : PairsAt w s o l) (hb : Below w.heap.size w w') : PairsAt w' s o l :=
 ⟨Nat.lt_of_lt_of_le h.lt hb.size, fun i x hx => (hb.cell (p := ⟨s, o + i * 2, none⟩) h.lt).trans (h.fst i x hx), fun i x hx => (hb.cell (p := ⟨s, o + i * 2 + 1, none⟩) h.lt).trans (h.snd i x hx)⟩
theorem QBm (n : Int) (s o cap : Nat) (l : List (Int × Int)) (w : World) (h : PairsAt w s o l) (hm : l.length ≤ 9223372036854775807) (m : Nat) (Hm : Hid (Qbi n = m)) :
  Calls Tryz.prog 129 #[.int .i64 n, .slice (some ⟨s, o, none⟩) l.length cap] w fun e w' => ∃ b c, e = .returned (pv b) ∧ Made w w' b c (ofK m l) := by
 go_enter Tryz.func129, Tryz.ntmps129
 go_wp2_with fail
 refine (Qfw n _).mono ?_
 rw [Hm.out]
 rintro e w1 ⟨b, c, rfl, h1, h2, h3, h4⟩
 have hM1 : Made w w1 b c (List.replicate m 0) := ⟨h1, h2, h3, h4⟩
 clear h1 h2 h3 h4
 go_wp2_with fail
 go_loopw [12] (fun i wr => ∃ k : Nat, k ≤ l.length ∧ i = .int .i64 k ∧ Made w wr b c (ofK m (l.take k))) (fun i _ => l.length - (intOf i).toNat)
 case atStart => exact ⟨0, oW, rfl, hM1⟩
 case round =>
  clear hM1
  obtain ⟨k, hk, rfl, hM⟩ := hrel
  by_cases hlt : k < l.length
  ·obtain ⟨⟨x, y⟩, hx⟩ : ∃ x, l[k]? = some x := ⟨_, List.getElem?_eq_getElem hlt⟩
   have hp := h.below hM.below
   have c0 := hp.fst k _ hx
   have c1 := hp.snd k _ hx
   have HE : Hid (Qbc (ofK m (l.take k)) x y true = ofK m (l.take (k + 1))) := by
    show _ = _
    rw [List.take_add_one, hx]
    exact (Qxl m _ (x, y)).symm
   clear hx
   go_wp2_with fail
   refine (Qd6 b c (ofK m (l.take k)) x y true _ (hM.alloc _).rel).mono ?_
   rw [HE.out]
   rintro e w2 ⟨rfl, hI, ht⟩
   go_wp2_with fail
   refine ⟨⟨k + 1, oW, by go_num, (hM.alloc _).touch hI ht⟩, by simp [intOf]; omega⟩
  ·obtain rfl : k = l.length := by omega
   rw [List.take_length] at hM
   go_wp2_with fail
   go_ret
   exact ⟨b, c, rfl, hM⟩
theorem Qzo (n : Int) (x : Option Addr) (cap : Nat) (w : World) :
  Calls Tryz.prog 129 #[.int .i64 n, .slice x 0 cap] w fun e w' => ∃ b c, e = .returned (pv b) ∧ Made w w' b c (ofL n []) := by
 go_enter Tryz.func129, Tryz.ntmps129
 go_wp2_with fail
 refine (Qfw n _).mono ?_
 rintro e w1 ⟨b, c, rfl, h1, h2, h3, h4⟩
 go_wp2_with fail
 go_loopw [12] (fun i wr => i = .int .i64 0 ∧ wr = w1) (fun _ _ => 0)
 case atStart => exact ⟨rfl, rfl⟩
 case round =>
  obtain ⟨rfl, rfl⟩ := hrel
  go_wp2_with fail
  go_ret
  exact ⟨b, c, rfl, h1, h2, h3, h4⟩
def PArg (w : World) (v : Value) (l : List (Int × Int)) : Prop := (∃ x cap, v = .slice x 0 cap ∧ l = []) ∨ ∃ s o cap, v = .slice (some ⟨s, o, none⟩) l.length cap ∧ PairsAt w s o l ∧ l.length ≤ 9223372036854775807
theorem PArg.below {w w' : World} {v : Value} {l : List (Int × Int)} (h : PArg w v l) (hb : Below w.heap.size w w') : PArg w' v l := by
 rcases h with h | ⟨s, o, cap, h1, h2, h3⟩
 ·exact .inl h
 ·exact .inr ⟨s, o, cap, h1, h2.below hb, h3⟩
theorem OfT (n : Int) (v : Value) (l : List (Int × Int)) (w : World) (h : PArg w v l) :
  Calls Tryz.prog 129 #[.int .i64 n, v] w fun e w' => ∃ b c, e = .returned (pv b) ∧ Made w w' b c (ofL n l) := by
 rcases h with ⟨x, cap, rfl, rfl⟩ | ⟨s, o, cap, rfl, h2, h3⟩
 ·exact Qzo n x cap w
 ·exact QBm n s o cap l w h2 h3 _ rfl
def Qtk (D : Nat) : Deferred := { target := .collected D, args := #[] }
structure Marks (n : Nat) (W : World) (Ds : List Nat) : Prop where
 nodup : Ds.Nodup
 lies : ∀ D ∈ Ds, n ≤ D ∧ W.heap[D]? = some (.deferred (some []))
def Qho (W : World) : List Nat → World
 | [] => W
 | D :: Ds => Qho (W.putObj D (.deferred none)) Ds
theorem Marks.nil (n : Nat) (W : World) : Marks n W [] := ⟨List.nodup_nil, fun _ h => by cases h⟩
theorem Marks.tail {n : Nat} {W : World} {D : Nat} {Ds : List Nat} (h : Marks n W (D :: Ds)) : Marks n (W.putObj D (.deferred none)) Ds := by
 refine ⟨(List.nodup_cons.1 h.nodup).2, fun E hE => ?_⟩
 have hne : E ≠ D := fun e => (List.nodup_cons.1 h.nodup).1 (e ▸ hE)
 obtain ⟨h1, h2⟩ := h.lies E (List.mem_cons_of_mem _ hE)
 exact ⟨h1, (World.putObj_heap_other hne).trans h2⟩
theorem Marks.keeps {n : Nat} {W W' : World} {Ds : List Nat} (h : Marks n W Ds) (hk : KeepsOthers W W') : Marks n W' Ds :=
 ⟨h.nodup, fun D hD => ⟨(h.lies D hD).1, hk.same D _ (h.lies D hD).2 rfl⟩⟩
theorem Marks.below {n m : Nat} {W W' : World} {Ds : List Nat} (h : Marks n W Ds) (hb : Below m W W') (hm : ∀ D ∈ Ds, D < m) : Marks n W' Ds :=
 ⟨h.nodup, fun D hD => ⟨(h.lies D hD).1, (hb.block D (hm D hD)).trans (h.lies D hD).2⟩⟩
theorem Marks.lt {n : Nat} {W : World} {Ds : List Nat} (h : Marks n W Ds) : ∀ D ∈ Ds, D < W.heap.size := fun D hD => (Array.getElem?_eq_some_iff.1 (h.lies D hD).2).1
theorem Marks.cons {n : Nat} {W : World} {D : Nat} {Ds : List Nat} (h : Marks n W Ds) (hD : W.heap[D]? = some (.deferred (some []))) (hn : n ≤ D) (hlt : ∀ E ∈ Ds, E < D) : Marks n W (D :: Ds) :=
 ⟨List.nodup_cons.2 ⟨fun hm => Nat.lt_irrefl _ (hlt D hm), h.nodup⟩, fun E hE => by
  rcases List.mem_cons.1 hE with rfl | hE
  ·exact ⟨hn, hD⟩
  ·exact h.lies E hE⟩
theorem Qds {F : Fence} {m : Nat} {P : Program} {fn : Func} {tmps : Array Value} {R : Ending → World → Prop} {n : Nat} : ∀ {Ds : List Nat} {W : World}, Marks n W Ds →
  LeavesInM F m P fn tmps R [] .returning (Qho W Ds) → LeavesInM F m P fn tmps R (Ds.map Qtk) .returning W
 | [], _, _, hl => hl
 | D :: _, _, h, hl => ⟨by simp, .inl ⟨D, _, rfl, run_takeDeferred (h.lies D sW).2, Qds h.tail hl⟩⟩
theorem Qlb {n : Nat} {b : Nat} {t : TypeId} {cs : Array Value} : ∀ {Ds : List Nat} {W : World}, Marks n W Ds → Blk W b t cs → Blk (Qho W Ds) b t cs
 | [], _, _, hb => hb
 | D :: Ds, W, h, hb => (show Blk (Qho (W.putObj D (.deferred none)) Ds) b t cs from Qlb h.tail (hb.putObj (h.lies D sW).2 rfl _))
theorem Qe5 {n : Nat} : ∀ {Ds : List Nat} {W : World}, Marks n W Ds → Below n W (Qho W Ds)
 | [], W, _ => Below.refl n W
 | D :: Ds, W, h => by
  obtain ⟨h1, h2⟩ := h.lies D sW
  show Below n W (Qho (W.putObj D (.deferred none)) Ds)
  refine Below.trans ?_ (Qe5 h.tail)
  exact ⟨rfl, rfl, rfl, by simp, fun k hk => World.putObj_heap_other oW⟩
theorem Qxm {n : Nat} {b c : Nat} {L : List Nat} {Ds : List Nat} {W : World} (h : Marks n W Ds) (hr : IsRel W b c L) : IsRel (Qho W Ds) b c L :=
 ⟨hr.ne, Qlb h hr.head, Qlb h hr.rows, hr.len, hr.low⟩
theorem Qnx {w : World} {b c : Nat} {L : List Nat} {Ds : List Nat} {W : World} (h : Marks w.heap.size W Ds) (hr : Made w W b c L) : Made w (Qho W Ds) b c L :=
 ⟨Qxm h hr.rel, hr.hb, hr.hc, hr.below.trans (Qe5 h)⟩
theorem Qfb {c : Nat} {W W' : World} {t : TypeId} {cs : Array Value} (h : Touch c W W') (hb : Blk W c t cs) : KeepsOthers W W' :=
 ⟨h.size, fun k o hk ho => by
  have hkl := (Array.getElem?_eq_some_iff.1 hk).1
  have hne : k ≠ c := by
   rintro rfl
   have := hb.symm.trans hk
   cases this
   cases ho
  exact (h.block k hkl hne).trans hk⟩
attribute [local go_sem] Oper.semAt_some
theorem QCw (n : Nat) (b c : Nat) (L : List Nat) (w : World) (h : IsRel w b c L) :
  CallsIn Fence.wide n Tryz.prog 21 #[pv b] w fun e w' => e = .returned (.int .i64 L.length) ∧ w = w' := callsIn_wide.2 (Qfq b c L w h)
theorem QCx (m n : Nat) (hn : n ≤ 256) (w : World) :
  CallsIn Fence.wide m Tryz.prog 66 #[.int .i64 n] w fun e w' => ∃ b c, e = .returned (pv b) ∧ Made w w' b c (List.replicate n 0) := callsIn_wide.2 (Qg4 n hn w)
def Qed (A : List Nat) (p : Nat) (l : List Nat) : List Nat := l.foldl (fun (A : List Nat) (q : Nat) => Qbc A (q : Int) (p : Int) true) A
theorem Qtl (A : List Nat) (p : Nat) (l : List Nat) (q : Nat) : Qed A p (l ++ [q]) = Qbc (Qed A p l) q p true := by simp [Qed]
def Qf2 (L : List Nat) (k : Nat) : List Nat := (List.range k).foldl (fun A p => Qed A p (Qad (gr L p))) (List.replicate L.length 0)
theorem Qg5 (L : List Nat) (k : Nat) : Qf2 L (k + 1) = Qed (Qf2 L k) k (Qad (gr L k)) := by simp [Qf2, List.range_succ]
def Qb4 (L : List Nat) : List Nat := Qf2 L L.length
theorem Qtm (ba ca : Nat) (L : List Nat) (w : World) (h : IsRel w ba ca L) (hT : Tab w) :
  CallsIn Fence.wide 6 Tryz.prog 136 #[pv ba] w fun e w' => ∃ b c, e = .returned (pv b) ∧ Made w w' b c (Qb4 L) := by
 have hl := h.len
 refine callsIn_of_wp_marks Tryz.func136 rfl trivial ?_ rfl
 simp only [Tryz.ntmps136, List.size_toArray, List.length_cons, List.length_nil, Nat.reduceAdd, Nat.reduceSub, Array.replicate_succ, Array.replicate_zero, List.push_toArray, List.append_toArray, List.nil_append, List.cons_append]
 gi_wp2_with fail
 refine ⟨trivial, ?_⟩
 refine (QCw _ ba ca L _ h).mono ?_
 rintro e w' ⟨rfl, rfl⟩
 gi_wp2_with fail
 refine ⟨trivial, ?_⟩
 refine (QCx _ L.length hl _).mono ?_
 rintro e w1 ⟨b, c, rfl, hM⟩
 have hh := (hM.old h).hcell
 have hb1 := (hM.old h).head.lt
 gi_wp2_with fail
 clear hh hb1
 have hs0 := hM.below.size
 have hcw1 := hM.rel.rows.lt
 refine wpIn_loop (fun a wr => ∃ (k : Nat) (Ds : List Nat) (u4 u5 u6 u16 u17 u18 u19 u20 u21 u22 u23 u24 u25 u26 u27 : Value), (k ≤ L.length ∧ Blk wr w1.heap.size 42 #[pv b] ∧ Made w wr b c (Qf2 L k) ∧ Marks w.heap.size wr Ds) ∧ a = { tmps := #[pv ba, undef, .pointer none, pv w1.heap.size, u4, u5, u6, pv ba, .int .i64 L.length, pv b, pv ba, pv ba, pv ba, .slice (some ⟨ca, 0, none⟩) L.length L.length, .int .i64 L.length, .int .i64 k, u16, u17, u18, u19, u20, u21, u22, u23, u24, u25, u26, u27, undef], defers := Ds.map Qtk })
  (fun a _ => L.length - (intOf (a.tmps.getD 15 undef)).toNat) ?start ?round
 case start =>
  refine ⟨0, [], _, _, _, _, _, _, _, _, _, _, _, _, _, _, _, ⟨oW, Blk.new w1 _ _, hM.alloc _, Marks.nil _ _⟩, rfl⟩
 case round =>
  clear hM
  rintro _ wr ⟨k, Ds, u4, u5, u6, u16, u17, u18, u19, u20, u21, u22, u23, u24, u25, u26, u27, ⟨hk, hbx, hM, hD⟩, rfl⟩
  by_cases hlt : k < L.length
  ·have hro := hM.old h
   obtain ⟨hh, ⟨x0, x1, x2, x3⟩, _, q1, q2⟩ := hro.slots (Qbf hlt)
   have HE : Hid (_ = _) := Qg5 L k
   have hd : decide ((k : Int) < (L.length : Int)) = true := decide_eq_true oW
   gi_wp2_with (refine ⟨trivial, ?_⟩; gi_at_call 72; refine (Qdz Fence.wide _ trivial rfl (gr L k) _).mono ?_; rintro e w' ⟨rfl, rfl⟩)
   clear x0 x1 x2 x3 hh
   have hTr := hT.step hM.below
   have hs1 := hbx.lt
   have hs2 := hM.rel.head.lt
   have hs3 := hM.rel.rows.lt
   have hbc := hM.rel.ne
   have hcp : 0 < c := Nat.lt_of_lt_of_le hT.pos hM.hc
   have hDlt := hD.lt
   refine wpIn_rangeFunc_ownF rfl oW (gf := 114) (lb := #[.pointer (some ⟨wr.heap.size + 1 + 1, 0, none⟩)]) rfl trivial (enters_of Tryz.func114 kW rfl)
    (Qcj (gr L k) (wr.heap.size + 1 + 1) (6 - 1) oW _ ?hB ?hT) belowK_t (belowK_b sW) bW (fun _ => rfl)
    (fun pre W => wr.heap.size + 1 + 1 + 1 ≤ W.heap.size ∧ Blk W w1.heap.size 42 #[pv b] ∧ Blk W wr.heap.size 3 #[.int .i64 k] ∧ Made w W b c (Qed (Qf2 L k) k (Qbg pre)) ∧ Tab W ∧ Marks w.heap.size W Ds)
    (fun _ _ _ => False) ?hI (fun _ => Qdn) ?h0
    (fun x => { tmps := #[pv ba, undef, .pointer none, pv w1.heap.size, pv wr.heap.size, pv (wr.heap.size + 1), .int .i64 (x.1 : Int), pv ba, .int .i64 L.length, pv b, pv ba, pv ba, pv ba, .slice (some ⟨ca, 0, none⟩) L.length L.length, .int .i64 L.length, .int .i64 k, .bool true, .int .i64 k, .pointer (some ⟨ca, k * 4, none⟩), rv (gr L k), rv (gr L k), .func (.func 114) #[] #[.pointer (some ⟨wr.heap.size + 1 + 1, 0, none⟩)], .int .i64 (x.1 : Int), u23, u24, u25, u26, u27, undef], defers := [] }) ?assign ?body ?done ?stop
   case hB => exact Blk.new3 _ _ _ _ _
   case hT => exact ((hTr.alloc _).alloc _).alloc _
   case hI =>
    refine Qfp (fun s W hi => by simpa using hi.1) ?_
    rintro s W W' ⟨h1, h2, h3, h4, h5, h6⟩ hb'
    have hb' : Below (wr.heap.size + 1 + 1 + 1) W W' := by simpa using hb'
    exact ⟨Nat.le_trans h1 hb'.size, h2.below hb' oW, h3.below hb' oW, ⟨h4.rel.below' hb' oW oW, h4.hb, h4.hc, h4.below.trans (hb'.mono (by have := hM.below.size; omega))⟩, h5.below hb' oW, h6.below hb' (fun D hD => by have := hDlt D hD; omega)⟩
   case h0 =>
    exact ⟨by simp, ((hbx.alloc _).alloc _).alloc _, ((Blk.new wr _ _).alloc _).alloc _, ((hM.alloc _).alloc _).alloc _, ((hTr.alloc _).alloc _).alloc _, hD.keeps (((KeepsOthers.alloc _ _).trans (KeepsOthers.alloc _ _)).trans (KeepsOthers.alloc _ _))⟩
   case assign =>
    intro l x W K hK
    gi_wp2
    exact hK
   case body =>
    rintro l pre x W ⟨h1, h2, h3, h4, h5, h6⟩ _
    have k0 : W.cell? ⟨w1.heap.size, 0, none⟩ = some (pv b) := h2.cell rfl
    have k1 : W.cell? ⟨wr.heap.size, 0, none⟩ = some (.int .i64 k) := h3.cell rfl
    gi_wp2_with (refine ⟨trivial, ?_⟩; gi_at_call 22; refine (CallsIn.inRound l (callsIn_wide.2 (Qd6 b c _ (x.1 : Nat) k true _ h4.rel))).mono ?_; rintro e w2 ⟨rfl, hI2, ht2⟩)
    refine ⟨Qfb ht2 h4.rel.rows, ht2.below hcp oW, Nat.le_trans h1 ht2.size, h2.touch ht2 oW, h3.touch ht2 oW, ?_, h5.touch ht2 hcp, h6.keeps (Qfb ht2 h4.rel.rows)⟩
    rw [Qdy, Qtl]
    exact h4.touch hI2 ht2
   case done =>
    rintro D ys W hDD hys ⟨h1, h2, h3, h4, h5, h6⟩ hK
    rw [hys, ← HE.out] at h4
    gi_wp2
    have hm2 : Marks w.heap.size W (D :: Ds) := h6.cons hK (by simp at hDD; have := hM.below.size; omega) (fun E hE => by have := hDlt E hE; simp at hDD; omega)
    refine ⟨?_, ?_⟩
    ·refine ⟨k + 1, D :: Ds, ?_⟩
     repeat apply Exists.intro
     exact ⟨⟨oW, h2, h4, hm2⟩, rfl⟩
    ·simp [intOf]; omega
   case stop =>
    rintro D c pre W _ _ h _
    exact h.elim
  ·obtain rfl : k = L.length := by omega
   have k0 : wr.cell? ⟨w1.heap.size, 0, none⟩ = some (pv b) := hbx.cell rfl
   gi_wp2
   exact Qds hD ⟨_, results_tmp rfl _ _ _, b, c, rfl, Qnx hD hM⟩
theorem Qja (ba ca : Nat) (L : List Nat) (w : World) (h : IsRel w ba ca L) (hT : Tab w) :
  Calls Tryz.prog 136 #[pv ba] w fun e w' => ∃ b c, e = .returned (pv b) ∧ Made w w' b c (Qb4 L) := callsIn_wide.1 (Qtm ba ca L w h hT)
end Go.Proofs.YtdkogbfamdnheaaGreatDoor
namespace Go.Proofs.YtdkogbfamdnheaaGreatDoor
open Go.RowKit Go.Shelf Sx
set_option maxRecDepth 100000
set_option maxHeartbeats 16000000
set_option linter.unusedSimpArgs false
set_option linter.unusedVariables false
set_option maxHeartbeats 8000000 in
theorem Qtn (s cap : Nat) (rs : List (Nat × Nat × List Nat)) (w : World) (h : RelsAt w s rs) (hm : rs.length ≤ 1000) (M : Nat) (HM : Hid (Qbv (rs.map (·.2.2)) = M)) :
  Calls Tryz.prog 29 #[.slice (some ⟨s, 0, none⟩) rs.length cap] w fun e w' => ∃ b c, e = .returned (pv b) ∧ Made w w' b c (Qem M (rs.map (·.2.2))) := by
 go_enter Tryz.func29, Tryz.ntmps29
 go_wp2
 go_loopw [3, 13] (fun n i wr => ∃ k : Nat, k ≤ rs.length ∧ i = .int .i64 k ∧ n = .int .i64 ((Qbv ((rs.map (·.2.2)).take k) : Nat) : Int) ∧ Qbv ((rs.map (·.2.2)).take k) ≤ 256 ∧ w = wr) (fun _ i _ => rs.length - (intOf i).toNat)
 case atStart => exact ⟨0, oW, rfl, rfl, by simp [Qbv], rfl⟩
 case round =>
  obtain ⟨k, hk, rfl, rfl, hM, rfl⟩ := hrel
  by_cases hlt : k < rs.length
  ·obtain ⟨r, hr⟩ : ∃ r, rs[k]? = some r := ⟨_, List.getElem?_eq_getElem hlt⟩
   have c0 := h.cell k r hr
   have hrel := h.rel k r hr
   have hl := hrel.len
   have HS : Hid (Qbv ((rs.map (·.2.2)).take (k + 1)) = max (Qbv ((rs.map (·.2.2)).take k)) r.2.2.length) := by
    show _ = _
    rw [List.take_add_one, List.getElem?_map, hr]
    exact Qpu _ _
   clear hr
   generalize Qbv ((rs.map (·.2.2)).take k) = M1 at *
   go_wp2_with (go_at_call 21; refine (Qoa r.1 r.2.1 r.2.2 _ hrel).mono ?_; rintro e w' ⟨rfl, rfl⟩)
   refine ⟨⟨k + 1, oW, by go_num, ?_, ?_, trivial⟩, by simp [intOf]; omega⟩
   ·rw [HS.out]
    split
    ·rw [Nat.max_eq_right oW]
    ·rw [Nat.max_eq_left oW]
   ·rw [HS.out]; omega
  ·obtain rfl : k = rs.length := by omega
   rw [List.take_of_length_le sW]
   rw [List.take_of_length_le sW] at hM
   rw [HM.out] at hM ⊢
   have HL : Hid (∀ L ∈ rs.map (·.2.2), L.length ≤ M) := fun L hL => by rw [← HM.out]; exact Qtj hL
   have HCL : Hid (Qbi (M : Int) = M) := by show _ = _; unfold Qbi; omega
   go_wp2_with fail
   refine (Qfw _ _).mono ?_
   rw [HCL.out]
   rintro e w1 ⟨b, c, rfl, hI1, hb1, hc1, hB1⟩
   have hM1 : Made w w1 b c (List.replicate M 0) := ⟨hI1, hb1, hc1, hB1⟩
   clear hI1 hb1 hc1 hB1 hM
   go_wp2_with fail
   go_loopw [26] (fun i wr => ∃ k : Nat, k ≤ rs.length ∧ i = .int .i64 k ∧ Made w wr b c (Qem M ((rs.map (·.2.2)).take k))) (fun i _ => rs.length - (intOf i).toNat)
   case atStart => exact ⟨0, oW, rfl, hM1⟩
   case round =>
    clear hM1
    obtain ⟨k, hk, rfl, hM⟩ := hrel
    by_cases hlt : k < rs.length
    ·obtain ⟨⟨ba, ca, L⟩, hr⟩ : ∃ r, rs[k]? = some r := ⟨_, List.getElem?_eq_getElem hlt⟩
     have hrs := h.below hM.below
     have c0 := hrs.cell k _ hr
     have hold := h.rel k _ hr
     have hlL : L.length ≤ M := HL.out L (List.mem_map.2 ⟨_, List.mem_of_getElem? hr, rfl⟩)
     have HS : Hid (Qem M ((rs.map (·.2.2)).take (k + 1)) = Qck (Qem M ((rs.map (·.2.2)).take k)) L L.length) := by
      show _ = _
      rw [List.take_add_one, List.getElem?_map, hr]
      exact Qq9 _ _ _
     have hlA := Qor M ((rs.map (·.2.2)).take k)
     generalize Qem M ((rs.map (·.2.2)).take k) = A at *
     have HlA : Hid (A.length = M) := hlA
     have hrc := (hM.old hold).hcell
     clear hr hlA
     go_wp2_with fail
     go_loopw [35] (fun i wr => ∃ p : Nat, p ≤ L.length ∧ i = .int .i64 p ∧ Made w wr b c (Qck A L p)) (fun i _ => L.length - (intOf i).toNat)
     case atStart => exact ⟨0, oW, rfl, by rw [Qvl]; exact hM⟩
     case round =>
      clear hM c0 hrc hrs
      obtain ⟨p, hp, rfl, hM⟩ := hrel
      by_cases hlt2 : p < L.length
      ·have hpA : p < A.length := by rw [HlA.out]; omega
       have hg : (Qck A L p)[p]? = some (gr A p) := by rw [Qgl hpA, if_neg oW]
       have hro := hM.old hold
       obtain ⟨_, ⟨x0, x1, x2, x3⟩, _, q1, q2⟩ := hro.slots (Qbf hlt2)
       obtain ⟨y, ⟨y0, y1, y2, y3⟩, _, q3, q4⟩ := hM.rel.slots hg
       have hp256 : p < 256 := by have := hold.len; omega
       have hpu : p < (Qck A L p).length := by rw [Qa4]; exact hpA
       have HE : Hid (_ = _) := Qvm (L := L) hpA
       have HR : Hid (gr A p ||| gr L p < 2 ^ (Qck A L p).length) := by
        refine Qo7 ?_ ?_
        ·have := hM.rel.low (gr A p) (List.mem_of_getElem? hg); exact this
        ·rw [Qa4, HlA.out]
         exact Nat.lt_of_lt_of_le (hold.gr_lt p) (Nat.pow_le_pow_right oW hlL)
       go_wp2_with fail
       clear x0 x1 x2 x3 q1 q2 hro HS hlL hpA hold h HL HCL HM hlt hk hm
       go_region_with (go_at_call 67; refine (Qe8 (gr A p) (gr L p) _ _ (by rw [Qh9]; exact (Blk.new2 _ _ _ _).drew)).mono ?_; rintro e w2 ⟨rfl, hB2⟩; have hM2 := ((hM.alloc _).alloc _).drew.step hB2; clear y y0 y1 y2 y3; obtain ⟨z, ⟨z0, z1, z2, z3⟩, ⟨f0, f1, f2, f3⟩, q5, q6⟩ := hM2.rel.slots hg)
       all_goals
        go_wp2_with fail
        refine ⟨⟨p + 1, oW, by go_num, ?_⟩, by simp [intOf]; omega⟩
        rw [← HE.out]
        exact hM2.put hpu HR.out
      ·obtain rfl : p = L.length := by omega
       go_wp2_with fail
       refine ⟨⟨k + 1, oW, by go_num, ?_⟩, by simp [intOf]; omega⟩
       rw [HS.out]
       exact hM
    ·obtain rfl : k = rs.length := by omega
     rw [List.take_of_length_le sW] at hM
     go_wp2_with fail
     go_ret
     exact ⟨b, c, rfl, hM⟩
theorem Qdo (s cap : Nat) (rs : List (Nat × Nat × List Nat)) (w : World) (h : RelsAt w s rs) (hm : rs.length ≤ 1000) :
  Calls Tryz.prog 29 #[.slice (some ⟨s, 0, none⟩) rs.length cap] w fun e w' => ∃ b c, e = .returned (pv b) ∧ Made w w' b c (Qa1 (rs.map (·.2.2))) :=
 Qtn s cap rs w h hm _ rfl
theorem Qhp (s : Nat) (rs : List (Nat × Nat × List Nat)) (w : World) (h : RelsAt w s rs) (hm : rs.length ≤ 1000) :
  Calls Tryz.prog 29 #[.slice (some ⟨s, 0, none⟩) rs.length rs.length] w fun e w' => ∃ b c, e = .returned (pv b) ∧ Made w w' b c (Qa1 (rs.map (·.2.2))) :=
 Qdo s rs.length rs w h hm
theorem Qvn (L : List Nat) : Qa1 [L] = L := by
 apply List.ext_getElem?
 intro p
 have e : Qa1 [L] = Qck (List.replicate L.length 0) L L.length := by simp [Qa1, Qbv]
 rw [e]
 by_cases hp : p < L.length
 ·rw [Qgl (by simpa using hp), if_pos hp, Qbf hp, Qge (R := 0) (by simp [hp]), Nat.zero_or]
 ·rw [List.getElem?_eq_none (by rw [Qa4]; simp; omega), List.getElem?_eq_none oW]
theorem Qto (b c : Nat) (L : List Nat) (w : World) (h : IsRel w b c L) :
  Calls Tryz.prog 113 #[pv b] w fun e w' => ∃ b' c', e = .returned (pv b') ∧ Made w w' b' c' L := by
 have H : Hid (∀ w, RelsAt w (w.heap.size - 1) [(b, c, L)] → Calls Tryz.prog 29 #[.slice (some ⟨w.heap.size - 1, 0, none⟩) 1 1] w fun e w' => ∃ b' c', e = .returned (pv b') ∧ Made w w' b' c' L) := by
  intro w hr
  have := Qhp (w.heap.size - 1) [(b, c, L)] w hr sW
  rw [show [(b, c, L)].map (fun x => x.2.2) = [L] from rfl, Qvn] at this
  exact this
 have hr : RelsAt (w.alloc (.cells #[pv b] 42)) w.heap.size [(b, c, L)] := by
  refine ⟨?_, by simp, ?_⟩
  ·intro i r hi
   match i with
   | 0 => simp at hi; subst hi; exact (Blk.new w _ _).cell rfl
   | i + 1 => simp at hi
  ·intro i r hi
   match i with
   | 0 => simp at hi; subst hi; exact h.alloc _
   | i + 1 => simp at hi
 have H2 := H.out (w.alloc (.cells #[pv b] 42))
 simp only [World.size_alloc, Nat.add_sub_cancel] at H2
 have H3 := Qa (H2 hr)
 clear H2 hr H
 go_enter Tryz.func113, Tryz.ntmps113
 go_wp2_with fail
 refine H3.out.mono ?_
 rintro e w1 ⟨b', c', rfl, hM⟩
 go_wp2_with fail
 go_ret
 refine ⟨b', c', rfl, hM.rel, ?_, ?_, ?_⟩
 ·have := hM.hb; simp at this; omega
 ·have := hM.hc; simp at this; omega
 ·exact ((Below.refl _ w).alloc nW _).trans (hM.below.mono sW)
def Qdp (L : List Nat) (k : Nat) : Nat := (List.range k).foldl (fun s p => Qat s p ((gr L p).testBit p)) 0
theorem Qhq (L : List Nat) (k : Nat) : Qdp L (k + 1) = Qat (Qdp L k) k ((gr L k).testBit k) := by simp [Qdp, List.range_succ]
def Qc (L : List Nat) : Nat := Qdp L L.length
theorem Qr (b c : Nat) (L : List Nat) (w : World) (h : IsRel w b c L) :
  Calls Tryz.prog 111 #[pv b] w fun e w' => e = .returned (rv (Qc L)) ∧ Below w.heap.size w w' := by
 have hl := h.len
 have hb := h.head.lt
 have hc := h.rows.lt
 have hh := h.hcell
 go_enter Tryz.func111, Tryz.ntmps111
 go_wp2_with fail
 clear hh
 go_loopw [11] (fun i wr => ∃ k : Nat, k ≤ L.length ∧ i = .int .i64 k ∧ Blk wr w.heap.size 102 (rcs 0) ∧ Blk wr (w.heap.size + 1) 102 (rcs (Qdp L k)) ∧ Below w.heap.size w wr) (fun i _ => L.length - (intOf i).toNat)
 case atStart =>
  refine ⟨0, oW, rfl, ?_, ?_, ((Below.refl _ w).alloc nW _).alloc sW _⟩
  ·rw [Qd4]; exact (Blk.new w _ _).alloc _
  ·rw [show Qdp L 0 = 0 from rfl, Qd4]; exact Blk.new2 w _ _ _
 case round =>
  obtain ⟨k, hk, rfl, hR, hO, hB⟩ := hrel
  by_cases hlt : k < L.length
  ·have hI := h.below hB
   obtain ⟨_, ⟨x0, x1, x2, x3⟩, _, q1, q2⟩ := hI.slots (Qbf hlt)
   have hsz := hB.size
   have HE : Hid (_ = _) := Qhq L k
   go_wp2_with fail
   clear x0 x1 x2 x3 q1 q2
   have hO' := hO.alloc (.cells (rcs (gr L k)) 102)
   obtain ⟨⟨y0, y1, y2, y3⟩, _, y5⟩ := hO.row
   have hB1 : Below w.heap.size w (wr.alloc (.cells (rcs (gr L k)) 102)) := hB.alloc hsz _
   go_region_with (first | (go_at_call 59; refine (Qhc (gr L k) k oW _).mono ?_; rintro e w2 ⟨rfl, hB2⟩; have hO2 := hO'.drew.of_below hB2; obtain ⟨⟨z0, z1, z2, z3⟩, _, z5⟩ := hO2.row) | (go_at_call 60; refine (Qgf (Qdp L k) k _ oW _).mono ?_; rw [← HE.out]; rintro e w3 ⟨rfl, hB3⟩; have hO3 := hO2.of_below hB3; obtain ⟨⟨t0, t1, t2, t3⟩, ⟨f0, f1, f2, f3⟩, t5⟩ := hO3.row))
   all_goals
    go_wp2_with fail
    have hB4 : Below w.heap.size w w3 := (hB1.trans (Qop (hB2.mono (by simp; omega)))).trans (hB3.mono (Nat.le_trans (Nat.le_trans hB1.size sW) hB2.size))
    have hR3 := (((hR.alloc (.cells (rcs (gr L k)) 102)).drew.of_below hB2).of_below hB3)
    exact ⟨⟨k + 1, oW, by go_num, hR3.otherRow oW _ _ _ _ _ _ _ _, hO3.setRow _, Qa0 hB4 oW _ _ _ _ _ _ _ _⟩, by simp [intOf]; omega⟩
  ·obtain rfl : k = L.length := by omega
   obtain ⟨⟨y0, y1, y2, y3⟩, _, y5⟩ := hO.row
   obtain ⟨⟨t0, t1, t2, t3⟩, ⟨f0, f1, f2, f3⟩, t5⟩ := hR.row
   obtain ⟨⟨r0, r1, r2, r3⟩, _, _⟩ := (hR.setRow (Qdp L L.length)).row
   go_wp2_with fail
   exact bodyPost_ret (v := rv (Qc L)) (by simp [results, Tryz.results111, go_sem, r0, r1, r2, r3, Qc]) rfl ⟨rfl, Qa0 hB nW _ _ _ _ _ _ _ _⟩
theorem Qzp (ba ca bb cb : Nat) (A B : List Nat) (w : World) (ha : IsRel w ba ca A) (hb : IsRel w bb cb B) (hT : Tab w) (N : Nat) (HN : Hid (max A.length B.length = N)) (f : Nat → Nat) (Hf : Hid (f = fun p => Qaj B (Qad (gr A p)))) :
  Calls Tryz.prog 135 #[pv ba, pv bb] w fun e w' => ∃ b c, e = .returned (pv b) ∧ Made w w' b c (Qa2 N f A.length) := by
 have hla := ha.len
 have hlb := hb.len
 have hNA : A.length ≤ N := by rw [← HN.out]; omega
 have hN256 : N ≤ 256 := by rw [← HN.out]; omega
 go_enter Tryz.func135, Tryz.ntmps135
 have hmax : (if A.length < B.length then (B.length : Int) else (A.length : Int)) = (N : Int) := by rw [Qpv, HN.out]
 go_wp2_with fail
 refine (Qfq ba ca A _ ha).mono ?_
 rintro e w' ⟨rfl, rfl⟩
 go_wp2_with fail
 refine (Qfq bb cb B _ hb).mono ?_
 rintro e w' ⟨rfl, rfl⟩
 go_wp2_with fail
 refine (Qg4 N hN256 _).mono ?_
 rintro e w1 ⟨b, c, rfl, hM1⟩
 have hh := (hM1.old ha).hcell
 go_wp2_with fail
 clear hmax hh
 go_loopw [19] (fun i wr => ∃ k : Nat, k ≤ A.length ∧ i = .int .i64 k ∧ Made w wr b c (Qa2 N f k)) (fun i _ => A.length - (intOf i).toNat)
 case atStart => exact ⟨0, oW, rfl, by rw [Qio]; exact hM1⟩
 case round =>
  clear hM1
  obtain ⟨k, hk, rfl, hM⟩ := hrel
  by_cases hlt : k < A.length
  ·have hkN : k < N := by omega
   have hro := hM.old ha
   obtain ⟨_, ⟨x0, x1, x2, x3⟩, _, q1, q2⟩ := hro.slots (Qbf hlt)
   have hg : (Qa2 N f k)[k]? = some 0 := by rw [Qev hkN, if_neg oW]
   have y := hM.rel.hcell
   have q3 := hM.rel.head.lt
   have q4 := hM.rel.rows.lt
   have hku : k < (Qa2 N f k).length := by rw [Qaw]; exact hkN
   have HE : Hid (_ = _) := Qip (f := f) hkN
   have HF : Hid (f k = Qaj B (Qad (gr A k))) := by show _ = _; rw [Hf.out]
   have HR : Hid (f k < 2 ^ (Qa2 N f k).length) := by
    show _ < _
    rw [Qaw, HF.out]
    exact Nat.lt_of_lt_of_le (Qhn hb.low _) (Nat.pow_le_pow_right oW (by rw [← HN.out]; omega))
   have hbox : Blk (wr.alloc (.cells (rcs (gr A k)) 102)) wr.heap.size 102 (rcs (gr A k)) := Blk.new _ _ _
   go_wp2_with fail
   clear x0 x1 x2 x3
   go_region_held3 (fun w' => w'.cell? ⟨b, 0, none⟩ = some (.slice (some ⟨c, 0, none⟩) (Qa2 N f k).length (Qa2 N f k).length) ∧ w'.cell? ⟨wr.heap.size, 0, none⟩ = some (.int .u64 ((wd (gr A k) 0 : Nat) : Int)) ∧ w'.cell? ⟨wr.heap.size, 1, none⟩ = some (.int .u64 ((wd (gr A k) 1 : Nat) : Int)) ∧ w'.cell? ⟨wr.heap.size, 2, none⟩ = some (.int .u64 ((wd (gr A k) 2 : Nat) : Int)) ∧ w'.cell? ⟨wr.heap.size, 3, none⟩ = some (.int .u64 ((wd (gr A k) 3 : Nat) : Int))) (first | go_keep | (simp only [Qo5 hne1, Qo5 hne2]; exact ⟨z, t0, t1, t2, t3⟩))
    (first | (go_at_call 154; refine (Qin bb cb B (gr A k) _ (((hM.alloc _).old hb).drew) ((hT.step (hM.alloc _).below).drew)).mono ?_; rw [← HF.out]; rintro e w2 ⟨rfl, hB2⟩; have hM2 := (hM.alloc _).drew.step hB2; obtain ⟨z, ⟨z0, z1, z2, z3⟩, ⟨f0, f1, f2, f3⟩, q5, q6⟩ := hM2.rel.slots hg; obtain ⟨⟨t0, t1, t2, t3⟩, _, q7⟩ := (hbox.drew.of_below hB2).row; have hne1 : b ≠ c := hM2.rel.ne; have hne2 : wr.heap.size ≠ c := by omega))
   all_goals
    go_wp2_with fail
    refine ⟨⟨k + 1, oW, by go_num, ?_⟩, by simp [intOf]; omega⟩
    rw [← HE.out]
    exact hM2.put hku HR.out
  ·obtain rfl : k = A.length := by omega
   go_wp2_with fail
   go_ret
   exact ⟨b, c, rfl, hM⟩
theorem Ql6 (ba ca bb cb : Nat) (A B : List Nat) (w : World) (ha : IsRel w ba ca A) (hb : IsRel w bb cb B) (hT : Tab w) :
  Calls Tryz.prog 135 #[pv ba, pv bb] w fun e w' => ∃ b c, e = .returned (pv b) ∧ Made w w' b c (Qe4 A B) :=
 Qzp ba ca bb cb A B w ha hb hT _ rfl _ rfl
theorem Qxn (ba ca bb cb : Nat) (A B : List Nat) (w : World) (ha : IsRel w ba ca A) (hb : IsRel w bb cb B) (N : Nat) (HN : Hid (max A.length B.length = N)) (f : Nat → Nat) (Hf : Hid (f = fun p => gr A p &&& gr B p)) :
  Calls Tryz.prog 155 #[pv ba, pv bb, .func (.func 157) #[] #[]] w fun e w' => ∃ b c, e = .returned (pv b) ∧ Made w w' b c (Qa2 N f N) := by
 have hla := ha.len
 have hlb := hb.len
 have hN256 : N ≤ 256 := by rw [← HN.out]; omega
 go_enter Tryz.func155, Tryz.ntmps155
 have hmax : (if A.length < B.length then (B.length : Int) else (A.length : Int)) = (N : Int) := by rw [Qpv, HN.out]
 go_wp2_with fail
 refine (Qfq ba ca A _ ha).mono ?_
 rintro e w' ⟨rfl, rfl⟩
 go_wp2_with fail
 refine (Qfq bb cb B _ hb).mono ?_
 rintro e w' ⟨rfl, rfl⟩
 go_wp2_with fail
 refine (Qg4 N hN256 _).mono ?_
 rintro e w1 ⟨b, c, rfl, hM1⟩
 have hh := hM1.rel.hcell
 rw [List.length_replicate] at hh
 go_wp2_with fail
 clear hmax hh
 go_loopw [20] (fun i wr => ∃ k : Nat, k ≤ N ∧ i = .int .i64 k ∧ Made w wr b c (Qa2 N f k)) (fun i _ => N - (intOf i).toNat)
 case atStart => exact ⟨0, oW, rfl, by rw [Qio]; exact hM1⟩
 case round =>
  clear hM1
  obtain ⟨k, hk, rfl, hM⟩ := hrel
  by_cases hlt : k < N
  ·have hg : (Qa2 N f k)[k]? = some 0 := by rw [Qev hlt, if_neg oW]
   have y := hM.rel.hcell
   have q3 := hM.rel.head.lt
   have q4 := hM.rel.rows.lt
   have hku : k < (Qa2 N f k).length := by rw [Qaw]; exact hlt
   have HE : Hid (_ = _) := Qip (f := f) hlt
   have HF : Hid (f k = gr A k &&& gr B k) := by show _ = _; rw [Hf.out]
   have HR : Hid (f k < 2 ^ (Qa2 N f k).length) := by
    show _ < _
    rw [Qaw, HF.out]
    exact Qq0 (Nat.lt_of_lt_of_le (ha.gr_lt k) (Nat.pow_le_pow_right oW (by rw [← HN.out]; omega)))
   go_wp2_with fail
   go_region_held3 (fun w' => w'.cell? ⟨b, 0, none⟩ = some (.slice (some ⟨c, 0, none⟩) (Qa2 N f k).length (Qa2 N f k).length)) (first | go_keep | (simp only [Qo5 hne1]; exact z))
    (first | (go_at_call_of 170 (pv ba); refine (Qeo ba ca A k _ (hM.old ha).drew).mono ?_; rintro e w2 ⟨rfl, hB2⟩; have hM2 := hM.drew.step hB2; have z2 := hM2.rel.hcell) | (go_at_call_of 170 (pv bb); refine (Qeo bb cb B k _ (hM2.old hb)).mono ?_; rintro e w3 ⟨rfl, hB3⟩; have hM3 := hM2.step hB3; have z3 := hM3.rel.hcell) | (go_at_call 157; refine (Qiv (gr A k) (gr B k) _).mono ?_; rw [← HF.out]; rintro e w4 ⟨rfl, hB4⟩; have hM4 := hM3.step hB4; obtain ⟨z, ⟨y0, y1, y2, y3⟩, ⟨f0, f1, f2, f3⟩, q5, q6⟩ := hM4.rel.slots hg; have hne1 : b ≠ c := hM4.rel.ne))
   all_goals
    go_wp2_with fail
    refine ⟨⟨k + 1, oW, by go_num, ?_⟩, by simp [intOf]; omega⟩
    rw [← HE.out]
    exact hM4.put hku HR.out
  ·obtain rfl : k = N := by omega
   go_wp2_with fail
   go_ret
   exact ⟨b, c, rfl, hM⟩
theorem Qkm (ba ca bb cb : Nat) (A B : List Nat) (w : World) (ha : IsRel w ba ca A) (hb : IsRel w bb cb B) :
  Calls Tryz.prog 138 #[pv ba, pv bb] w fun e w' => ∃ b c, e = .returned (pv b) ∧ Made w w' b c (Qc4 A B) := by
 have H : Hid (∀ w, IsRel w ba ca A → IsRel w bb cb B → Calls Tryz.prog 155 #[pv ba, pv bb, .func (.func 157) #[] #[]] w fun e w' => ∃ b c, e = .returned (pv b) ∧ Made w w' b c (Qc4 A B)) := fun w ha hb => Qxn ba ca bb cb A B w ha hb _ rfl _ rfl
 go_enter Tryz.func138, Tryz.ntmps138
 go_wp2_with fail
 refine (H.out _ ha hb).mono ?_
 rintro e w1 ⟨b, c, rfl, hM1⟩
 go_wp2_with fail
 go_ret
 exact ⟨b, c, rfl, hM1⟩
theorem Qxo (ba ca bb cb : Nat) (A B : List Nat) (w : World) (ha : IsRel w ba ca A) (hb : IsRel w bb cb B) (N : Nat) (HN : Hid (max A.length B.length = N)) (f : Nat → Nat) (Hf : Hid (f = fun p => Qcx (gr A p) (gr B p))) :
  Calls Tryz.prog 155 #[pv ba, pv bb, .func (.func 156) #[] #[]] w fun e w' => ∃ b c, e = .returned (pv b) ∧ Made w w' b c (Qa2 N f N) := by
 have hla := ha.len
 have hlb := hb.len
 have hN256 : N ≤ 256 := by rw [← HN.out]; omega
 go_enter Tryz.func155, Tryz.ntmps155
 have hmax : (if A.length < B.length then (B.length : Int) else (A.length : Int)) = (N : Int) := by rw [Qpv, HN.out]
 go_wp2_with fail
 refine (Qfq ba ca A _ ha).mono ?_
 rintro e w' ⟨rfl, rfl⟩
 go_wp2_with fail
 refine (Qfq bb cb B _ hb).mono ?_
 rintro e w' ⟨rfl, rfl⟩
 go_wp2_with fail
 refine (Qg4 N hN256 _).mono ?_
 rintro e w1 ⟨b, c, rfl, hM1⟩
 have hh := hM1.rel.hcell
 rw [List.length_replicate] at hh
 go_wp2_with fail
 clear hmax hh
 go_loopw [20] (fun i wr => ∃ k : Nat, k ≤ N ∧ i = .int .i64 k ∧ Made w wr b c (Qa2 N f k)) (fun i _ => N - (intOf i).toNat)
 case atStart => exact ⟨0, oW, rfl, by rw [Qio]; exact hM1⟩
 case round =>
  clear hM1
  obtain ⟨k, hk, rfl, hM⟩ := hrel
  by_cases hlt : k < N
  ·have hg : (Qa2 N f k)[k]? = some 0 := by rw [Qev hlt, if_neg oW]
   have y := hM.rel.hcell
   have q3 := hM.rel.head.lt
   have q4 := hM.rel.rows.lt
   have hku : k < (Qa2 N f k).length := by rw [Qaw]; exact hlt
   have HE : Hid (_ = _) := Qip (f := f) hlt
   have HF : Hid (f k = Qcx (gr A k) (gr B k)) := by show _ = _; rw [Hf.out]
   have HR : Hid (f k < 2 ^ (Qa2 N f k).length) := by
    show _ < _
    rw [Qaw, HF.out]
    exact Qq1 (Nat.lt_of_lt_of_le (ha.gr_lt k) (Nat.pow_le_pow_right oW (by rw [← HN.out]; omega)))
   go_wp2_with fail
   go_region_held3 (fun w' => w'.cell? ⟨b, 0, none⟩ = some (.slice (some ⟨c, 0, none⟩) (Qa2 N f k).length (Qa2 N f k).length)) (first | go_keep | (simp only [Qo5 hne1]; exact z))
    (first | (go_at_call_of 170 (pv ba); refine (Qeo ba ca A k _ (hM.old ha).drew).mono ?_; rintro e w2 ⟨rfl, hB2⟩; have hM2 := hM.drew.step hB2; have z2 := hM2.rel.hcell) | (go_at_call_of 170 (pv bb); refine (Qeo bb cb B k _ (hM2.old hb)).mono ?_; rintro e w3 ⟨rfl, hB3⟩; have hM3 := hM2.step hB3; have z3 := hM3.rel.hcell) | (go_at_call 156; refine (Qjd (gr A k) (gr B k) _).mono ?_; rw [← HF.out]; rintro e w4 ⟨rfl, hB4⟩; have hM4 := hM3.step hB4; obtain ⟨z, ⟨y0, y1, y2, y3⟩, ⟨f0, f1, f2, f3⟩, q5, q6⟩ := hM4.rel.slots hg; have hne1 : b ≠ c := hM4.rel.ne))
   all_goals
    go_wp2_with fail
    refine ⟨⟨k + 1, oW, by go_num, ?_⟩, by simp [intOf]; omega⟩
    rw [← HE.out]
    exact hM4.put hku HR.out
  ·obtain rfl : k = N := by omega
   go_wp2_with fail
   go_ret
   exact ⟨b, c, rfl, hM⟩
theorem Qkn (ba ca bb cb : Nat) (A B : List Nat) (w : World) (ha : IsRel w ba ca A) (hb : IsRel w bb cb B) :
  Calls Tryz.prog 137 #[pv ba, pv bb] w fun e w' => ∃ b c, e = .returned (pv b) ∧ Made w w' b c (Qen A B) := by
 have H : Hid (∀ w, IsRel w ba ca A → IsRel w bb cb B → Calls Tryz.prog 155 #[pv ba, pv bb, .func (.func 156) #[] #[]] w fun e w' => ∃ b c, e = .returned (pv b) ∧ Made w w' b c (Qen A B)) := fun w ha hb => Qxo ba ca bb cb A B w ha hb _ rfl _ rfl
 go_enter Tryz.func137, Tryz.ntmps137
 go_wp2_with fail
 refine (H.out _ ha hb).mono ?_
 rintro e w1 ⟨b, c, rfl, hM1⟩
 go_wp2_with fail
 go_ret
 exact ⟨b, c, rfl, hM1⟩
structure BoolsAt (w : World) (s o : Nat) (l : List Bool) : Prop where
 lt : s < w.heap.size
 cell : ∀ (i : Nat) (x : Bool), l[i]? = some x → w.cell? ⟨s, o + i, none⟩ = some (.bool x)
theorem BoolsAt.below {w w' : World} {s o : Nat} {l : List Bool} (h : BoolsAt w s o l) (hb : Below w.heap.size w w') : BoolsAt w' s o l :=
 ⟨Nat.lt_of_lt_of_le h.lt hb.size, fun i x hx => (hb.cell (p := ⟨s, o + i, none⟩) h.lt).trans (h.cell i x hx)⟩
def SetAt (w : World) (v : Value) (l : List Bool) : Prop := (∃ x cap, v = .slice x 0 cap ∧ l = []) ∨ ∃ s o cap, v = .slice (some ⟨s, o, none⟩) l.length cap ∧ BoolsAt w s o l
theorem SetAt.below {w w' : World} {v : Value} {l : List Bool} (h : SetAt w v l) (hb : Below w.heap.size w w') : SetAt w' v l := by
 rcases h with h | ⟨s, o, cap, h1, h2⟩
 ·exact .inl h
 ·exact .inr ⟨s, o, cap, h1, h2.below hb⟩
def Qc5 (l : List Bool) (k : Nat) : Nat := (List.range k).foldl (fun s p => Qat s p (l.getD p false)) 0
theorem Qko (l : List Bool) (k : Nat) : Qc5 l (k + 1) = Qat (Qc5 l k) k (l.getD k false) := by simp [Qc5, List.range_succ]
def Qca (n : Nat) (l : List Bool) : Nat := Qc5 l (min n l.length)
theorem Qm1 (l : List Bool) (k p : Nat) : (Qc5 l k).testBit p = (decide (p < k) && l.getD p false) := by
 induction k with
 | zero => simp [Qc5]
 | succ k ih =>
  rw [Qko, Qb2, ih]
  by_cases h : p = k
  ·subst h; simp
  ·rw [if_neg h]
   by_cases h2 : p < k
   ·rw [decide_eq_true h2, decide_eq_true (show p < k + 1 by omega)]
   ·rw [decide_eq_false h2, decide_eq_false (show ¬ p < k + 1 by omega)]
theorem Qxp (n : Nat) (hn : n ≤ 256) (s o cap : Nat) (l : List Bool) (w : World) (h : BoolsAt w s o l) (m : Nat) (HM : Hid (min n l.length = m)) :
  Calls Tryz.prog 160 #[.int .i64 n, .slice (some ⟨s, o, none⟩) l.length cap] w fun e w' => e = .returned (rv (Qc5 l m)) ∧ Below w.heap.size w w' := by
 have hmin : (if n < l.length then (n : Int) else (l.length : Int)) = (m : Int) := by rw [← HM.out]; split <;> omega
 have hmin2 : (if l.length < n then (l.length : Int) else (n : Int)) = (m : Int) := by rw [← HM.out]; split <;> omega
 have hmn : m ≤ n := by rw [← HM.out]; omega
 have hml : m ≤ l.length := by rw [← HM.out]; omega
 have hs := h.lt
 go_enter Tryz.func160, Tryz.ntmps160
 go_wp2_with fail
 clear hmin hmin2
 go_loopw [11] (fun i wr => ∃ k : Nat, k ≤ m ∧ i = .int .i64 k ∧ Blk wr w.heap.size 102 (rcs 0) ∧ Blk wr (w.heap.size + 1) 102 (rcs (Qc5 l k)) ∧ Below w.heap.size w wr) (fun i _ => m - (intOf i).toNat)
 case atStart =>
  refine ⟨0, oW, rfl, ?_, ?_, ((Below.refl _ w).alloc nW _).alloc sW _⟩
  ·rw [Qd4]; exact (Blk.new w _ _).alloc _
  ·rw [show Qc5 l 0 = 0 from rfl, Qd4]; exact Blk.new2 w _ _ _
 case round =>
  obtain ⟨k, hk, rfl, hR, hO, hB⟩ := hrel
  by_cases hlt : k < m
  ·have hlk : k < l.length := by omega
   have hx : l[k]? = some (l.getD k false) := by simp [List.getD, hlk]
   have c0 := (h.below hB).cell k _ hx
   have HE : Hid (_ = _) := Qko l k
   generalize l.getD k false = x at *
   have hsz := hB.size
   obtain ⟨⟨y0, y1, y2, y3⟩, _, y5⟩ := hO.row
   clear hx
   go_wp2_with fail
   go_region_with (first | (go_at_call 60; refine (Qgf (Qc5 l k) k x oW _).mono ?_; rw [← HE.out]; rintro e w3 ⟨rfl, hB3⟩; have hO3 := hO.drew.of_below hB3; obtain ⟨⟨t0, t1, t2, t3⟩, ⟨f0, f1, f2, f3⟩, t5⟩ := hO3.row))
   all_goals
    go_wp2_with fail
    have hB4 : Below w.heap.size w w3 := Qaa hB hsz (Qbz hB3)
    have hR3 := hR.drew.of_below hB3
    exact ⟨⟨k + 1, oW, by go_num, hR3.otherRow oW _ _ _ _ _ _ _ _, hO3.setRow _, Qa0 hB4 oW _ _ _ _ _ _ _ _⟩, by simp [intOf]; omega⟩
  ·obtain rfl : k = m := by omega
   obtain ⟨⟨y0, y1, y2, y3⟩, _, y5⟩ := hO.row
   obtain ⟨⟨t0, t1, t2, t3⟩, ⟨f0, f1, f2, f3⟩, t5⟩ := hR.row
   obtain ⟨⟨r0, r1, r2, r3⟩, _, _⟩ := (hR.setRow (Qc5 l k)).row
   go_wp2_with fail
   exact bodyPost_ret (v := rv (Qc5 l k)) (by simp [results, Tryz.results160, go_sem, r0, r1, r2, r3]) rfl ⟨rfl, Qa0 hB nW _ _ _ _ _ _ _ _⟩
theorem Qvo (n : Nat) (hn : n ≤ 256) (x : Option Addr) (cap : Nat) (w : World) :
  Calls Tryz.prog 160 #[.int .i64 n, .slice x 0 cap] w fun e w' => e = .returned (rv 0) ∧ Below w.heap.size w w' := by
 have H : Hid (rv 0 = .agg #[.int .u64 0, .int .u64 0, .int .u64 0, .int .u64 0]) := by show _ = _; simp [rv, Qgn]
 rw [H.out]
 rcases Nat.eq_zero_or_pos n with rfl | hp
 all_goals
  go_enter Tryz.func160, Tryz.ntmps160
  go_wp2_with fail
  go_loopw [11] (fun i wr => i = .int .i64 0 ∧ wr = (w.alloc (.cells #[.int .u64 0, .int .u64 0, .int .u64 0, .int .u64 0] 102)).alloc (.cells #[.int .u64 0, .int .u64 0, .int .u64 0, .int .u64 0] 102)) (fun _ _ => 0)
  case atStart => exact ⟨rfl, rfl⟩
  case round =>
   obtain ⟨rfl, rfl⟩ := hrel
   go_wp2_with fail
   exact bodyPost_ret (v := .agg #[.int .u64 0, .int .u64 0, .int .u64 0, .int .u64 0]) (by simp [results, Tryz.results160, go_sem]) rfl ⟨rfl, ((Below.refl _ w).alloc nW _).alloc sW _⟩
theorem Qkp (n : Nat) (hn : n ≤ 256) (v : Value) (l : List Bool) (w : World) (h : SetAt w v l) :
  Calls Tryz.prog 160 #[.int .i64 n, v] w fun e w' => e = .returned (rv (Qca n l)) ∧ Below w.heap.size w w' := by
 rcases h with ⟨x, cap, rfl, rfl⟩ | ⟨s, o, cap, rfl, hb⟩
 ·rw [show Qca n [] = 0 from by simp [Qca, Qc5]]
  exact Qvo n hn x cap w
 ·exact Qxp n hn s o cap l w hb _ rfl
end Go.Proofs.YtdkogbfamdnheaaGreatDoor
