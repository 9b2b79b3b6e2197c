import Derived.Test.YtdkogbfamdnheaaGreatDoorRowWalks
import Derived.Test.YtdkogbfamdnheaaGreatDoorJ05
namespace Go.Proofs.YtdkogbfamdnheaaGreatDoor
open Go.RowKit Sx
set_option maxRecDepth 100000
set_option maxHeartbeats 16000000
set_option linter.unusedSimpArgs false
set_option linter.unusedVariables false
theorem Tryz.und102 : Tryz.prog.underlying 102 = some (.array 4 32) := by kernel_rfl
theorem Tryz.cells32 : Tryz.prog.cellsOf 32 = 1 := by kernel_rfl
theorem Tryz.plain32 : Tryz.prog.plainKey 32 = true := by kernel_rfl
theorem Qxy (a b c d a' b' c' d' : Int) (w : World) :
  (Op.equalIn 10000 102 (.agg #[.int .u64 a, .int .u64 b, .int .u64 c, .int .u64 d]) (.agg #[.int .u64 a', .int .u64 b', .int .u64 c', .int .u64 d'])).run Tryz.prog w = .ok (a == a' && (b == b' && (c == c' && d == d'))) w := by
 have h : ∀ n, (Op.equalIn (n + 2) 102 (.agg #[.int .u64 a, .int .u64 b, .int .u64 c, .int .u64 d]) (.agg #[.int .u64 a', .int .u64 b', .int .u64 c', .int .u64 d'])).run Tryz.prog w = .ok (a == a' && (b == b' && (c == c' && d == d'))) w := by
  intro n
  have hi : (Tryz.prog.info? 32).isSome = true := by kernel_rfl
  obtain ⟨i, hi⟩ := Option.isSome_iff_exists.1 hi
  rw [run_equalIn_array (P := Tryz.prog) w (n + 1) _ _ Tryz.und102 hi, Tryz.cells32]
  have hp : ∀ (xs : Array Value) (o : Nat) (v : Value), xs[o]? = some v → (part 32 xs o).run Tryz.prog w = .ok v w :=
   fun xs o v h => run_part_plain w Tryz.plain32 h
  simp [Op.eqItems, List.range, List.range.loop, hp, run_equalIn_int]
  by_cases h1 : a = a' <;> by_cases h2 : b = b' <;> by_cases h3 : c = c' <;> by_cases h4 : d = d' <;> simp [h1, h2, h3, h4]
 exact h 9998
theorem Qxz (R : Nat) (h : R < 2 ^ 256) : (((wd R 0 : Nat) : Int) == 0 && (((wd R 1 : Nat) : Int) == 0 && (((wd R 2 : Nat) : Int) == 0 && ((wd R 3 : Nat) : Int) == 0))) = (R == 0) := by
 rw [Bool.eq_iff_iff]
 simp only [Bool.and_eq_true, beq_iff_eq]
 constructor
 ·rintro ⟨h0, h1, h2, h3⟩
  refine QCe h oW (fun j hj => ?_)
  rw [Qgn]
  have : j = 0 ∨ j = 1 ∨ j = 2 ∨ j = 3 := by omega
  rcases this with rfl | rfl | rfl | rfl <;> omega
 ·rintro rfl
  simp [Qgn]
theorem Qkr (R : Nat) (hR : Hid (R < 2 ^ 256)) (w : World) :
  Calls Tryz.prog 112 #[rv R] w fun e w' => e = .returned (.bool (R == 0)) ∧ Below w.heap.size w w' := by
 have H : Hid (_ = _) := Qxz R hR
 have he := Qxy
 rw [← H.out]
 go_enter Tryz.func112, Tryz.ntmps112
 go_wp2
 go_ret
 exact ⟨rfl, bW.alloc nW _⟩
def Qjx (k : Nat) (f g : Nat → Nat) (j : Nat) : Value := .int .u64 ((if j < k then f j else g j : Nat) : Int)
def mix (k : Nat) (f g : Nat → Nat) : Array Value := #[Qjx k f g 0, Qjx k f g 1, Qjx k f g 2, Qjx k f g 3]
theorem Qmb {k j : Nat} {f g : Nat → Nat} (hj : j < 4) (h : ¬ j < k) : (mix k f g)[j]? = some (.int .u64 ((g j : Nat) : Int)) := by
 have : j = 0 ∨ j = 1 ∨ j = 2 ∨ j = 3 := by omega
 rcases this with rfl | rfl | rfl | rfl <;> simp [mix, Qjx, h]
theorem Qk {k : Nat} {f g : Nat → Nat} (hk : k < 4) : (mix k f g).setIfInBounds k (.int .u64 ((f k : Nat) : Int)) = mix (k + 1) f g := by
 have : k = 0 ∨ k = 1 ∨ k = 2 ∨ k = 3 := by omega
 rcases this with rfl | rfl | rfl | rfl <;> simp [mix, Qjx]
theorem Qlf (f g : Nat → Nat) : mix 0 f g = #[.int .u64 ((g 0 : Nat) : Int), .int .u64 ((g 1 : Nat) : Int), .int .u64 ((g 2 : Nat) : Int), .int .u64 ((g 3 : Nat) : Int)] := by simp [mix, Qjx]
theorem Qlg (f g : Nat → Nat) : mix 4 f g = #[.int .u64 ((f 0 : Nat) : Int), .int .u64 ((f 1 : Nat) : Int), .int .u64 ((f 2 : Nat) : Int), .int .u64 ((f 3 : Nat) : Int)] := by simp [mix, Qjx]
def rcs (R : Nat) : Array Value := #[.int .u64 ((wd R 0 : Nat) : Int), .int .u64 ((wd R 1 : Nat) : Int), .int .u64 ((wd R 2 : Nat) : Int), .int .u64 ((wd R 3 : Nat) : Int)]
theorem Qbs {R j : Nat} (h : j < 4) : (rcs R)[j]? = some (.int .u64 ((wd R j : Nat) : Int)) := by
 have : j = 0 ∨ j = 1 ∨ j = 2 ∨ j = 3 := by omega
 rcases this with rfl | rfl | rfl | rfl <;> simp [rcs]
theorem Qx0 (R S j : Nat) : bits BinOp.and IntKind.u64 ((wd R j : Nat) : Int) ((wd S j : Nat) : Int) = ((wd (R &&& S) j : Nat) : Int) := by
 rw [u64_and_nat _ _ (Qeu R j) (Qeu S j), QCd]
theorem Qsi (R S j : Nat) : bits BinOp.or IntKind.u64 ((wd R j : Nat) : Int) ((wd S j : Nat) : Int) = ((wd (R ||| S) j : Nat) : Int) := by
 rw [u64_or_nat _ _ (Qeu R j) (Qeu S j), Quv]
theorem Qx1 (R S j : Nat) : bits BinOp.andNot IntKind.u64 ((wd R j : Nat) : Int) ((wd S j : Nat) : Int) = ((wd (Qcx R S) j : Nat) : Int) := by
 rw [u64_andNot_nat _ _ (Qeu R j) (Qeu S j), Qly]
theorem Blk.new2 (w : World) (o : Obj) (t : TypeId) (cs : Array Value) : Blk ((w.alloc o).alloc (.cells cs t)) (w.heap.size + 1) t cs := by
 have := Blk.new (w.alloc o) t cs
 rwa [World.size_alloc] at this
theorem Blk.new3 (w : World) (o o' : Obj) (t : TypeId) (cs : Array Value) : Blk (((w.alloc o).alloc o').alloc (.cells cs t)) (w.heap.size + 1 + 1) t cs := by
 have := Blk.new2 (w.alloc o) o' t cs
 rwa [World.size_alloc] at this
theorem Qiv (R S : Nat) (w : World) :
  Calls Tryz.prog 157 #[rv R, rv S] w fun e w' => e = .returned (rv (R &&& S)) ∧ Below w.heap.size w w' := by
 go_enter Tryz.func157, Tryz.ntmps157
 go_wp2
 go_loopw [6] (fun i wr => ∃ k : Nat, k ≤ 4 ∧ i = .int .i64 k ∧ Blk wr w.heap.size 102 (mix k (wd (R &&& S)) (wd R)) ∧ Blk wr (w.heap.size + 1) 102 (rcs S) ∧ Blk wr (w.heap.size + 1 + 1) 102 #[.int .u64 0, .int .u64 0, .int .u64 0, .int .u64 0] ∧ Below w.heap.size w wr) (fun i _ => 4 - (intOf i).toNat)
 case atStart =>
  refine ⟨0, oW, rfl, ?_, ?_, ?_, ?_⟩
  ·rw [Qlf]; exact ((Blk.new w _ _).alloc _).alloc _
  ·exact (Blk.new2 w _ _ _).alloc _
  ·exact Blk.new3 w _ _ _ _
  ·exact (((Below.refl _ w).alloc nW _).alloc sW _).alloc (by simp; omega) _
 case round =>
  obtain ⟨k, hk, rfl, hA, hB, hC, hW⟩ := hrel
  by_cases hlt : k < 4
  ·have c1 := hA.cell (Qmb hlt (Nat.lt_irrefl k))
   have c2 := hB.cell (Qbs (R := S) hlt)
   have f1 := hA.frozen k
   have HW : Hid (_ = _) := Qx0 R S k
   go_wp2
   go_region
   all_goals go_wp2
   rw [HW.out]
   refine ⟨⟨k + 1, oW, by go_num, ?_, (hB.setOther sW _).drew, (hC.setOther (by simp; omega) _).drew, (hW.setCell nW _).drew⟩, by simp [intOf]; omega⟩
   have := (hA.set k (.int .u64 ((wd (R &&& S) k : Nat) : Int))).drew
   rwa [Qk hlt] at this
  ·obtain rfl : k = 4 := by omega
   rw [Qlg] at hA
   have c0 := hA.cell (j := 0) rfl
   have c1 := hA.cell (j := 1) rfl
   have c2 := hA.cell (j := 2) rfl
   have c3 := hA.cell (j := 3) rfl
   have d0 := hC.cell (j := 0) rfl
   have d1 := hC.cell (j := 1) rfl
   have d2 := hC.cell (j := 2) rfl
   have d3 := hC.cell (j := 3) rfl
   have f0 := hC.frozen 0
   have f1 := hC.frozen 1
   have f2 := hC.frozen 2
   have f3 := hC.frozen 3
   go_wp2
   exact bodyPost_ret (v := rv (R &&& S)) (by simp [results, Tryz.results157, go_sem, d0, d1, d2, d3]) rfl ⟨rfl, by exact (((hW.setCell (by simp; omega) _).setCell (by simp; omega) _).setCell (by simp; omega) _).setCell (by simp; omega) _⟩
theorem Qjd (R S : Nat) (w : World) :
  Calls Tryz.prog 156 #[rv R, rv S] w fun e w' => e = .returned (rv (Qcx R S)) ∧ Below w.heap.size w w' := by
 go_enter Tryz.func156, Tryz.ntmps156
 go_wp2
 go_loopw [6] (fun i wr => ∃ k : Nat, k ≤ 4 ∧ i = .int .i64 k ∧ Blk wr w.heap.size 102 (mix k (wd (Qcx R S)) (wd R)) ∧ Blk wr (w.heap.size + 1) 102 (rcs S) ∧ Blk wr (w.heap.size + 1 + 1) 102 #[.int .u64 0, .int .u64 0, .int .u64 0, .int .u64 0] ∧ Below w.heap.size w wr) (fun i _ => 4 - (intOf i).toNat)
 case atStart =>
  refine ⟨0, oW, rfl, ?_, ?_, ?_, ?_⟩
  ·rw [Qlf]; exact ((Blk.new w _ _).alloc _).alloc _
  ·exact (Blk.new2 w _ _ _).alloc _
  ·exact Blk.new3 w _ _ _ _
  ·exact (((Below.refl _ w).alloc nW _).alloc sW _).alloc (by simp; omega) _
 case round =>
  obtain ⟨k, hk, rfl, hA, hB, hC, hW⟩ := hrel
  by_cases hlt : k < 4
  ·have c1 := hA.cell (Qmb hlt (Nat.lt_irrefl k))
   have c2 := hB.cell (Qbs (R := S) hlt)
   have f1 := hA.frozen k
   have HW : Hid (_ = _) := Qx1 R S k
   go_wp2
   go_region
   all_goals go_wp2
   rw [HW.out]
   refine ⟨⟨k + 1, oW, by go_num, ?_, (hB.setOther sW _).drew, (hC.setOther (by simp; omega) _).drew, (hW.setCell nW _).drew⟩, by simp [intOf]; omega⟩
   have := (hA.set k (.int .u64 ((wd (Qcx R S) k : Nat) : Int))).drew
   rwa [Qk hlt] at this
  ·obtain rfl : k = 4 := by omega
   rw [Qlg] at hA
   have c0 := hA.cell (j := 0) rfl
   have c1 := hA.cell (j := 1) rfl
   have c2 := hA.cell (j := 2) rfl
   have c3 := hA.cell (j := 3) rfl
   have d0 := hC.cell (j := 0) rfl
   have d1 := hC.cell (j := 1) rfl
   have d2 := hC.cell (j := 2) rfl
   have d3 := hC.cell (j := 3) rfl
   have f0 := hC.frozen 0
   have f1 := hC.frozen 1
   have f2 := hC.frozen 2
   have f3 := hC.frozen 3
   go_wp2
   exact bodyPost_ret (v := rv (Qcx R S)) (by simp [results, Tryz.results156, go_sem, d0, d1, d2, d3]) rfl ⟨rfl, by exact (((hW.setCell (by simp; omega) _).setCell (by simp; omega) _).setCell (by simp; omega) _).setCell (by simp; omega) _⟩
def Qd3 (R S k : Nat) : Nat := if k = 0 then 0 else if k = 1 then R else R ||| S
theorem Qd4 : rcs 0 = #[.int .u64 0, .int .u64 0, .int .u64 0, .int .u64 0] := by simp [rcs, Qgn]
theorem Qn5 (f : Nat → Nat) (R : Nat) : mix 0 f (wd R) = rcs R := Qlf _ _
theorem Qn6 (g : Nat → Nat) (R : Nat) : mix 4 (wd R) g = rcs R := Qlg _ _
theorem Qka {R S j : Nat} (h : j < 4) : (rcs R ++ rcs S)[j]? = some (.int .u64 ((wd R j : Nat) : Int)) := by
 rw [Array.getElem?_append_left (by simp [rcs]; omega)]; exact Qbs h
theorem Qkb {R S j : Nat} (h : j < 4) : (rcs R ++ rcs S)[4 + j]? = some (.int .u64 ((wd S j : Nat) : Int)) := by
 rw [Array.getElem?_append_right (by simp [rcs])]
 simp only [rcs, List.size_toArray, List.length_cons, List.length_nil, Nat.reduceAdd, Nat.add_sub_cancel_left]
 exact Qbs h
theorem Qe8 (R S b : Nat) (w : World) (hb : Blk w b 102 (rcs R ++ rcs S)) :
  Calls Tryz.prog 67 #[.slice (some ⟨b, 0, none⟩) 2 2] w fun e w' => e = .returned (rv (R ||| S)) ∧ Below w.heap.size w w' := by
 have hlt := hb.lt
 go_enter Tryz.func67, Tryz.ntmps67
 go_wp2
 go_loopw [9] (fun i wr => ∃ k : Nat, k ≤ 2 ∧ i = .int .i64 k ∧ Blk wr b 102 (rcs R ++ rcs S) ∧ Blk wr (w.heap.size) 102 #[.int .u64 0, .int .u64 0, .int .u64 0, .int .u64 0] ∧ Blk wr (w.heap.size + 1) 102 (rcs (Qd3 R S k)) ∧ Below w.heap.size w wr) (fun i _ => 2 - (intOf i).toNat)
 case atStart =>
  refine ⟨0, oW, rfl, (hb.alloc _).alloc _, (Blk.new w _ _).alloc _, ?_, ((Below.refl _ w).alloc nW _).alloc sW _⟩
  rw [show Qd3 R S 0 = 0 from rfl, Qd4]
  exact Blk.new2 w _ _ _
 case round =>
  obtain ⟨k, hk, rfl, hB, hC, hA, hW⟩ := hrel
  have hs := hA.lt
  have hc : k = 0 ∨ k = 1 ∨ k = 2 := by omega
  rcases hc with rfl | rfl | rfl
  ·have x0 := hB.cell (Qka (R := R) (S := S) (j := 0) oW)
   have x1 := hB.cell (Qka (R := R) (S := S) (j := 1) oW)
   have x2 := hB.cell (Qka (R := R) (S := S) (j := 2) oW)
   have x3 := hB.cell (Qka (R := R) (S := S) (j := 3) oW)
   go_wp2
   go_loopw [13] (fun i w2 => ∃ j : Nat, j ≤ 4 ∧ i = .int .i64 j ∧ Blk w2 b 102 (rcs R ++ rcs S) ∧ Blk w2 (w.heap.size) 102 #[.int .u64 0, .int .u64 0, .int .u64 0, .int .u64 0] ∧ Blk w2 (w.heap.size + 1) 102 (mix j (wd (Qd3 R S 1)) (wd (Qd3 R S 0))) ∧ Blk w2 wr.heap.size 102 (rcs R) ∧ Below w.heap.size w w2) (fun i _ => 4 - (intOf i).toNat)
   case atStart =>
    refine ⟨0, oW, rfl, hB.alloc _, hC.alloc _, ?_, ?_, hW.alloc hW.size _⟩
    ·rw [Qn5]; exact hA.alloc _
    ·exact Blk.new wr _ _
   case round =>
    obtain ⟨j, hj, rfl, hB2, hC2, hA2, hD2, hW2⟩ := hrel
    by_cases hj4 : j < 4
    ·have c1 := hA2.cell (Qmb hj4 (Nat.lt_irrefl j))
     have c2 := hD2.cell (Qbs (R := R) hj4)
     have f1 := hA2.frozen j
     have HW : Hid (_ = _) := Qsi (Qd3 R S 0) R j
     have HE : Hid (Qd3 R S 0 ||| R = Qd3 R S 1) := by show _ = _; simp [Qd3]
     go_wp2
     go_region
     all_goals go_wp2
     rw [HW.out, HE.out]
     refine ⟨⟨j + 1, oW, by go_num, (hB2.setOther (by simp; omega) _).drew, (hC2.setOther sW _).drew, ?_, (hD2.setOther (by simp; omega) _).drew, (hW2.setCell sW _).drew⟩, by simp [intOf]; omega⟩
     have := (hA2.set j (.int .u64 ((wd (Qd3 R S 1) j : Nat) : Int))).drew
     rwa [Qk hj4] at this
    ·obtain rfl : j = 4 := by omega
     rw [Qn6] at hA2
     go_wp2
     refine ⟨⟨1, oW, by go_num, hB2, hC2, hA2, hW2⟩, by simp [intOf]⟩
  ·have x0 := hB.cell (Qkb (R := R) (S := S) (j := 0) oW)
   have x1 := hB.cell (Qkb (R := R) (S := S) (j := 1) oW)
   have x2 := hB.cell (Qkb (R := R) (S := S) (j := 2) oW)
   have x3 := hB.cell (Qkb (R := R) (S := S) (j := 3) oW)
   go_wp2
   go_loopw [13] (fun i w2 => ∃ j : Nat, j ≤ 4 ∧ i = .int .i64 j ∧ Blk w2 b 102 (rcs R ++ rcs S) ∧ Blk w2 (w.heap.size) 102 #[.int .u64 0, .int .u64 0, .int .u64 0, .int .u64 0] ∧ Blk w2 (w.heap.size + 1) 102 (mix j (wd (Qd3 R S 2)) (wd (Qd3 R S 1))) ∧ Blk w2 wr.heap.size 102 (rcs S) ∧ Below w.heap.size w w2) (fun i _ => 4 - (intOf i).toNat)
   case atStart =>
    refine ⟨0, oW, rfl, hB.alloc _, hC.alloc _, ?_, ?_, hW.alloc hW.size _⟩
    ·rw [Qn5]; exact hA.alloc _
    ·exact Blk.new wr _ _
   case round =>
    obtain ⟨j, hj, rfl, hB2, hC2, hA2, hD2, hW2⟩ := hrel
    by_cases hj4 : j < 4
    ·have c1 := hA2.cell (Qmb hj4 (Nat.lt_irrefl j))
     have c2 := hD2.cell (Qbs (R := S) hj4)
     have f1 := hA2.frozen j
     have HW : Hid (_ = _) := Qsi (Qd3 R S 1) S j
     have HE : Hid (Qd3 R S 1 ||| S = Qd3 R S 2) := by show _ = _; simp [Qd3]
     go_wp2
     go_region
     all_goals go_wp2
     rw [HW.out, HE.out]
     refine ⟨⟨j + 1, oW, by go_num, (hB2.setOther (by simp; omega) _).drew, (hC2.setOther sW _).drew, ?_, (hD2.setOther (by simp; omega) _).drew, (hW2.setCell sW _).drew⟩, by simp [intOf]; omega⟩
     have := (hA2.set j (.int .u64 ((wd (Qd3 R S 2) j : Nat) : Int))).drew
     rwa [Qk hj4] at this
    ·obtain rfl : j = 4 := by omega
     rw [Qn6] at hA2
     go_wp2
     refine ⟨⟨2, oW, by go_num, hB2, hC2, hA2, hW2⟩, by simp [intOf]⟩
  ·rw [show Qd3 R S 2 = R ||| S from rfl] at hA
   have c0 := hA.cell (Qbs (j := 0) oW)
   have c1 := hA.cell (Qbs (j := 1) oW)
   have c2 := hA.cell (Qbs (j := 2) oW)
   have c3 := hA.cell (Qbs (j := 3) oW)
   have d0 := hC.cell (j := 0) rfl
   have d1 := hC.cell (j := 1) rfl
   have d2 := hC.cell (j := 2) rfl
   have d3 := hC.cell (j := 3) rfl
   have f0 := hC.frozen 0
   have f1 := hC.frozen 1
   have f2 := hC.frozen 2
   have f3 := hC.frozen 3
   go_wp2
   exact bodyPost_ret (v := rv (R ||| S)) (by simp [results, Tryz.results67, go_sem, d0, d1, d2, d3]) rfl ⟨rfl, by exact (((hW.setCell nW _).setCell nW _).setCell nW _).setCell nW _⟩
end Go.Proofs.YtdkogbfamdnheaaGreatDoor
