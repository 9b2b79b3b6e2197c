import Derived.Test.YtdkogbfamdnheaaGreatDoorW0
import Derived.Test.YtdkogbfamdnheaaGreatDoorRows
import Derived.Test.YtdkogbfamdnheaaGreatDoorRowMath
import Derived.WalkSpells
import Derived.WalkLawsBesides
namespace Go.Proofs.YtdkogbfamdnheaaGreatDoor
open Go.RowKit Sx
set_option maxRecDepth 100000
set_option maxHeartbeats 16000000
set_option linter.unusedSimpArgs false
set_option linter.unusedVariables false
abbrev rv (R : Nat) : Value := .agg #[.int .u64 ((wd R 0 : Nat) : Int), .int .u64 ((wd R 1 : Nat) : Int), .int .u64 ((wd R 2 : Nat) : Int), .int .u64 ((wd R 3 : Nat) : Int)]
theorem at4 (f : Nat → Value) (j : Nat) (h : j < 4) : [f 0, f 1, f 2, f 3][j]? = some (f j) := by
 match j, h with
 | 0, _ => rfl
 | 1, _ => rfl
 | 2, _ => rfl
 | 3, _ => rfl
theorem Qz5 (R j : Nat) (h : j < 4) : [Value.int .u64 ((wd R 0 : Nat) : Int), .int .u64 ((wd R 1 : Nat) : Int), .int .u64 ((wd R 2 : Nat) : Int), .int .u64 ((wd R 3 : Nat) : Int)][j]? = some (.int .u64 ((wd R j : Nat) : Int)) :=
 at4 (fun j => .int .u64 ((wd R j : Nat) : Int)) j h
theorem Qz6 (R p : Nat) : (bits BinOp.and IntKind.u64 (((wd R (p / 64) : Nat) : Int) / 2 ^ (p % 64)) 1 == 1) = R.testBit p := by
 rw [show (((wd R (p / 64) : Nat) : Int) / 2 ^ (p % 64)) = ((wd R (p / 64) / 2 ^ (p % 64) : Nat) : Int) from by simp]
 have hlt : wd R (p / 64) / 2 ^ (p % 64) < 18446744073709551616 := Nat.lt_of_le_of_lt (Nat.div_le_self _ _) (Qeu R (p / 64))
 have h := u64_and_nat (wd R (p / 64) / 2 ^ (p % 64)) 1 hlt oW
 rw [show ((1 : Nat) : Int) = 1 from rfl] at h
 rw [h, Nat.and_one_is_mod, Qf9 R p, Bool.eq_iff_iff]
 simp only [beq_iff_eq]
 omega
theorem Qhc (R p : Nat) (hp : p < 256) (w : World) :
  Calls Tryz.prog 59 #[rv R, .int .i64 p] w fun e w' => e = .returned (.bool (R.testBit p)) ∧ Below w.heap.size w w' := by
 have hx := Qz5 R (p / 64) oW
 go_enter Tryz.func59, Tryz.ntmps59
 go_wp2
 go_ret
 exact ⟨congrArg (fun b => Ending.returned (.bool b)) (Qz6 R p), bW.alloc nW _⟩
theorem Qqc (r : Nat) (h : r < 64) : IntKind.u64.wrap (2 ^ r) = ((2 ^ r : Nat) : Int) := by
 have h64 : (2 : Nat) ^ r < 18446744073709551616 := Nat.pow_lt_pow_right oW h
 rw [show ((2 : Int) ^ r) = ((2 ^ r : Nat) : Int) from by simp]
 have h0 : (0 : Int) ≤ ((2 ^ r : Nat) : Int) := Int.natCast_nonneg _
 have h1 : ((2 ^ r : Nat) : Int) < 18446744073709551616 := by omega
 generalize ((2 ^ r : Nat) : Int) = x at *
 simp only [IntKind.wrap]
 simp [IntKind.bits, IntKind.signed]
 omega
theorem Qkf (R p j : Nat) (h : p / 64 = j) : (bits BinOp.or IntKind.u64 ((wd R j : Nat) : Int) (IntKind.u64.wrap (2 ^ (p % 64)))) = ((wd (Qat R p true) j : Nat) : Int) := by
 have h64 : (2 : Nat) ^ (p % 64) < 18446744073709551616 := Nat.pow_lt_pow_right oW (Nat.mod_lt _ oW : p % 64 < 64)
 rw [Qqc _ (Nat.mod_lt _ oW), u64_or_nat _ _ (Qeu R j) h64]
 simp only [Qat, if_true]
 rw [Quv, Qmp, if_pos h]
theorem Qi1 (R p j : Nat) (h : p / 64 = j) : (bits BinOp.andNot IntKind.u64 ((wd R j : Nat) : Int) (IntKind.u64.wrap (2 ^ (p % 64)))) = ((wd (Qat R p false) j : Nat) : Int) := by
 have h64 : (2 : Nat) ^ (p % 64) < 18446744073709551616 := Nat.pow_lt_pow_right oW (Nat.mod_lt _ oW : p % 64 < 64)
 rw [Qqc _ (Nat.mod_lt _ oW), u64_andNot_nat _ _ (Qeu R j) h64]
 simp only [Qat, Bool.false_eq_true, if_false]
 rw [Qly, Qmp, if_pos h]
theorem Qtz (R p j : Nat) (b : Bool) (h : ¬ p / 64 = j) : wd (Qat R p b) j = wd R j := by
 cases b
 ·simp only [Qat, Bool.false_eq_true, if_false]
  rw [Qly, Qmp, if_neg h, Nat.sub_zero, Nat.and_two_pow_sub_one_eq_mod, Nat.mod_eq_of_lt (Qeu R j)]
 ·simp only [Qat, if_true]
  rw [Quv, Qmp, if_neg h, Nat.or_zero]
theorem Qgf (R p : Nat) (b : Bool) (hp : p < 256) (w : World) :
  Calls Tryz.prog 60 #[rv R, .int .i64 p, .bool b] w fun e w' => e = .returned (rv (Qat R p b)) ∧ Below w.heap.size w w' := by
 have hj : p / 64 = 0 ∨ p / 64 = 1 ∨ p / 64 = 2 ∨ p / 64 = 3 := by omega
 have HO : Hid (∀ j, ¬ p / 64 = j → wd R j = wd (Qat R p b) j) := fun j h => (Qtz R p j b h).symm
 cases b
 ·rcases hj with hj | hj | hj | hj
  ·have HS : Hid (_ = _) := Qi1 R p _ hj
   go_enter Tryz.func60, Tryz.ntmps60
   go_wp2
   rw [HS.out]
   exact bodyPost_ret (v := rv (Qat R p false)) (by simp [results, Tryz.results60, go_sem, HO.out 1 oW, HO.out 2 oW, HO.out 3 oW]) rfl ⟨rfl, (bW.alloc nW _).alloc sW _⟩
  ·have HS : Hid (_ = _) := Qi1 R p _ hj
   go_enter Tryz.func60, Tryz.ntmps60
   go_wp2
   rw [HS.out]
   exact bodyPost_ret (v := rv (Qat R p false)) (by simp [results, Tryz.results60, go_sem, HO.out 0 oW, HO.out 2 oW, HO.out 3 oW]) rfl ⟨rfl, (bW.alloc nW _).alloc sW _⟩
  ·have HS : Hid (_ = _) := Qi1 R p _ hj
   go_enter Tryz.func60, Tryz.ntmps60
   go_wp2
   rw [HS.out]
   exact bodyPost_ret (v := rv (Qat R p false)) (by simp [results, Tryz.results60, go_sem, HO.out 0 oW, HO.out 1 oW, HO.out 3 oW]) rfl ⟨rfl, (bW.alloc nW _).alloc sW _⟩
  ·have HS : Hid (_ = _) := Qi1 R p _ hj
   go_enter Tryz.func60, Tryz.ntmps60
   go_wp2
   rw [HS.out]
   exact bodyPost_ret (v := rv (Qat R p false)) (by simp [results, Tryz.results60, go_sem, HO.out 0 oW, HO.out 1 oW, HO.out 2 oW]) rfl ⟨rfl, (bW.alloc nW _).alloc sW _⟩
 ·rcases hj with hj | hj | hj | hj
  ·have HS : Hid (_ = _) := Qkf R p _ hj
   go_enter Tryz.func60, Tryz.ntmps60
   go_wp2
   rw [HS.out]
   exact bodyPost_ret (v := rv (Qat R p true)) (by simp [results, Tryz.results60, go_sem, HO.out 1 oW, HO.out 2 oW, HO.out 3 oW]) rfl ⟨rfl, (bW.alloc nW _).alloc sW _⟩
  ·have HS : Hid (_ = _) := Qkf R p _ hj
   go_enter Tryz.func60, Tryz.ntmps60
   go_wp2
   rw [HS.out]
   exact bodyPost_ret (v := rv (Qat R p true)) (by simp [results, Tryz.results60, go_sem, HO.out 0 oW, HO.out 2 oW, HO.out 3 oW]) rfl ⟨rfl, (bW.alloc nW _).alloc sW _⟩
  ·have HS : Hid (_ = _) := Qkf R p _ hj
   go_enter Tryz.func60, Tryz.ntmps60
   go_wp2
   rw [HS.out]
   exact bodyPost_ret (v := rv (Qat R p true)) (by simp [results, Tryz.results60, go_sem, HO.out 0 oW, HO.out 1 oW, HO.out 3 oW]) rfl ⟨rfl, (bW.alloc nW _).alloc sW _⟩
  ·have HS : Hid (_ = _) := Qkf R p _ hj
   go_enter Tryz.func60, Tryz.ntmps60
   go_wp2
   rw [HS.out]
   exact bodyPost_ret (v := rv (Qat R p true)) (by simp [results, Tryz.results60, go_sem, HO.out 0 oW, HO.out 1 oW, HO.out 2 oW]) rfl ⟨rfl, (bW.alloc nW _).alloc sW _⟩
end Go.Proofs.YtdkogbfamdnheaaGreatDoor
