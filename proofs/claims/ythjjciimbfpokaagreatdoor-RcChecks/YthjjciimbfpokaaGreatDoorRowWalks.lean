/- The contracts of package rel's rows: has, with, empty, points. -/
import Derived.Test.YthjjciimbfpokaaGreatDoorRows
import Derived.Test.YthjjciimbfpokaaGreatDoorRowMath
import Derived.WalkKit
import Derived.WalkSpells
import Derived.WalkLawsBesides
namespace Go.Proofs.YthjjciimbfpokaaGreatDoor
open Go.RowKit Sx
set_option maxRecDepth 100000
set_option maxHeartbeats 16000000
set_option linter.unusedSimpArgs false
set_option linter.unusedVariables false
abbrev rv (R : Nat) : Value := .agg #[.int .u64 ((wd R 0 : Nat) : Int), .int .u64 ((wd R 1 : Nat) : Int), .int .u64 ((wd R 2 : Nat) : Int), .int .u64 ((wd R 3 : Nat) : Int)]
theorem at4 (f : Nat → Value) (j : Nat) (h : j < 4) : [f 0, f 1, f 2, f 3][j]? = some (f j) := by
 match j, h with
 | 0, _ => rfl
 | 1, _ => rfl
 | 2, _ => rfl
 | 3, _ => rfl
theorem QDn (R j : Nat) (h : j < 4) : [Value.int .u64 ((wd R 0 : Nat) : Int), .int .u64 ((wd R 1 : Nat) : Int), .int .u64 ((wd R 2 : Nat) : Int), .int .u64 ((wd R 3 : Nat) : Int)][j]? = some (.int .u64 ((wd R j : Nat) : Int)) :=
 at4 (fun j => .int .u64 ((wd R j : Nat) : Int)) j h
theorem QDo (R p : Nat) : (bits BinOp.and IntKind.u64 (((wd R (p / 64) : Nat) : Int) / 2 ^ (p % 64)) 1 == 1) = R.testBit p := by
 rw [show (((wd R (p / 64) : Nat) : Int) / 2 ^ (p % 64)) = ((wd R (p / 64) / 2 ^ (p % 64) : Nat) : Int) from by simp]
 have hlt : wd R (p / 64) / 2 ^ (p % 64) < 18446744073709551616 := Nat.lt_of_le_of_lt (Nat.div_le_self _ _) (Qe6 R (p / 64))
 have h := u64_and_nat (wd R (p / 64) / 2 ^ (p % 64)) 1 hlt (by omega)
 rw [show ((1 : Nat) : Int) = 1 from rfl] at h
 rw [h, Nat.and_one_is_mod, Qgy R p, Bool.eq_iff_iff]
 simp only [beq_iff_eq]
 omega
theorem Qh5 (R p : Nat) (hp : p < 256) (w : World) :
  Calls Tryz.prog 65 #[rv R, .int .i64 p] w fun e w' => e = .returned (.bool (R.testBit p)) ∧ Below w.heap.size w w' := by
 have hx := QDn R (p / 64) (by omega)
 go_enter Tryz.func65, Tryz.ntmps65
 go_wp2
 go_ret
 exact ⟨congrArg (fun b => Ending.returned (.bool b)) (QDo R p), (Below.refl _ _).alloc (Nat.le_refl _) _⟩
theorem Qr8 (r : Nat) (h : r < 64) : IntKind.u64.wrap (2 ^ r) = ((2 ^ r : Nat) : Int) := by
 have h64 : (2 : Nat) ^ r < 18446744073709551616 := Nat.pow_lt_pow_right (by omega) h
 rw [show ((2 : Int) ^ r) = ((2 ^ r : Nat) : Int) from by simp]
 have h0 : (0 : Int) ≤ ((2 ^ r : Nat) : Int) := Int.natCast_nonneg _
 have h1 : ((2 ^ r : Nat) : Int) < 18446744073709551616 := by omega
 generalize ((2 ^ r : Nat) : Int) = x at *
 simp only [IntKind.wrap]
 simp [IntKind.bits, IntKind.signed]
 omega
theorem Qla (R p j : Nat) (h : p / 64 = j) : (bits BinOp.or IntKind.u64 ((wd R j : Nat) : Int) (IntKind.u64.wrap (2 ^ (p % 64)))) = ((wd (Qav R p true) j : Nat) : Int) := by
 have h64 : (2 : Nat) ^ (p % 64) < 18446744073709551616 := Nat.pow_lt_pow_right (by omega) (Nat.mod_lt _ (by omega) : p % 64 < 64)
 rw [Qr8 _ (Nat.mod_lt _ (by omega)), u64_or_nat _ _ (Qe6 R j) h64]
 simp only [Qav, if_true]
 rw [Qwl, Qnl, if_pos h]
theorem Qjn (R p j : Nat) (h : p / 64 = j) : (bits BinOp.andNot IntKind.u64 ((wd R j : Nat) : Int) (IntKind.u64.wrap (2 ^ (p % 64)))) = ((wd (Qav R p false) j : Nat) : Int) := by
 have h64 : (2 : Nat) ^ (p % 64) < 18446744073709551616 := Nat.pow_lt_pow_right (by omega) (Nat.mod_lt _ (by omega) : p % 64 < 64)
 rw [Qr8 _ (Nat.mod_lt _ (by omega)), u64_andNot_nat _ _ (Qe6 R j) h64]
 simp only [Qav, Bool.false_eq_true, if_false]
 rw [Qmg, Qnl, if_pos h]
theorem Qwh (R p j : Nat) (b : Bool) (h : ¬ p / 64 = j) : wd (Qav R p b) j = wd R j := by
 cases b
 ·simp only [Qav, Bool.false_eq_true, if_false]
  rw [Qmg, Qnl, if_neg h, Nat.sub_zero, Nat.and_two_pow_sub_one_eq_mod, Nat.mod_eq_of_lt (Qe6 R j)]
 ·simp only [Qav, if_true]
  rw [Qwl, Qnl, if_neg h, Nat.or_zero]
theorem Qg7 (R p : Nat) (b : Bool) (hp : p < 256) (w : World) :
  Calls Tryz.prog 66 #[rv R, .int .i64 p, .bool b] w fun e w' => e = .returned (rv (Qav R p b)) ∧ Below w.heap.size w w' := by
 have hj : p / 64 = 0 ∨ p / 64 = 1 ∨ p / 64 = 2 ∨ p / 64 = 3 := by omega
 have HO : Hid (∀ j, ¬ p / 64 = j → wd R j = wd (Qav R p b) j) := fun j h => (Qwh R p j b h).symm
 cases b
 ·rcases hj with hj | hj | hj | hj
  ·have HS : Hid (_ = _) := Qjn R p _ hj
   go_enter Tryz.func66, Tryz.ntmps66
   go_wp2
   rw [HS.out]
   exact bodyPost_ret (v := rv (Qav R p false)) (by simp [results, Tryz.results66, go_sem, HO.out 1 (by omega), HO.out 2 (by omega), HO.out 3 (by omega)]) rfl ⟨rfl, ((Below.refl _ _).alloc (Nat.le_refl _) _).alloc (by simp) _⟩
  ·have HS : Hid (_ = _) := Qjn R p _ hj
   go_enter Tryz.func66, Tryz.ntmps66
   go_wp2
   rw [HS.out]
   exact bodyPost_ret (v := rv (Qav R p false)) (by simp [results, Tryz.results66, go_sem, HO.out 0 (by omega), HO.out 2 (by omega), HO.out 3 (by omega)]) rfl ⟨rfl, ((Below.refl _ _).alloc (Nat.le_refl _) _).alloc (by simp) _⟩
  ·have HS : Hid (_ = _) := Qjn R p _ hj
   go_enter Tryz.func66, Tryz.ntmps66
   go_wp2
   rw [HS.out]
   exact bodyPost_ret (v := rv (Qav R p false)) (by simp [results, Tryz.results66, go_sem, HO.out 0 (by omega), HO.out 1 (by omega), HO.out 3 (by omega)]) rfl ⟨rfl, ((Below.refl _ _).alloc (Nat.le_refl _) _).alloc (by simp) _⟩
  ·have HS : Hid (_ = _) := Qjn R p _ hj
   go_enter Tryz.func66, Tryz.ntmps66
   go_wp2
   rw [HS.out]
   exact bodyPost_ret (v := rv (Qav R p false)) (by simp [results, Tryz.results66, go_sem, HO.out 0 (by omega), HO.out 1 (by omega), HO.out 2 (by omega)]) rfl ⟨rfl, ((Below.refl _ _).alloc (Nat.le_refl _) _).alloc (by simp) _⟩
 ·rcases hj with hj | hj | hj | hj
  ·have HS : Hid (_ = _) := Qla R p _ hj
   go_enter Tryz.func66, Tryz.ntmps66
   go_wp2
   rw [HS.out]
   exact bodyPost_ret (v := rv (Qav R p true)) (by simp [results, Tryz.results66, go_sem, HO.out 1 (by omega), HO.out 2 (by omega), HO.out 3 (by omega)]) rfl ⟨rfl, ((Below.refl _ _).alloc (Nat.le_refl _) _).alloc (by simp) _⟩
  ·have HS : Hid (_ = _) := Qla R p _ hj
   go_enter Tryz.func66, Tryz.ntmps66
   go_wp2
   rw [HS.out]
   exact bodyPost_ret (v := rv (Qav R p true)) (by simp [results, Tryz.results66, go_sem, HO.out 0 (by omega), HO.out 2 (by omega), HO.out 3 (by omega)]) rfl ⟨rfl, ((Below.refl _ _).alloc (Nat.le_refl _) _).alloc (by simp) _⟩
  ·have HS : Hid (_ = _) := Qla R p _ hj
   go_enter Tryz.func66, Tryz.ntmps66
   go_wp2
   rw [HS.out]
   exact bodyPost_ret (v := rv (Qav R p true)) (by simp [results, Tryz.results66, go_sem, HO.out 0 (by omega), HO.out 1 (by omega), HO.out 3 (by omega)]) rfl ⟨rfl, ((Below.refl _ _).alloc (Nat.le_refl _) _).alloc (by simp) _⟩
  ·have HS : Hid (_ = _) := Qla R p _ hj
   go_enter Tryz.func66, Tryz.ntmps66
   go_wp2
   rw [HS.out]
   exact bodyPost_ret (v := rv (Qav R p true)) (by simp [results, Tryz.results66, go_sem, HO.out 0 (by omega), HO.out 1 (by omega), HO.out 2 (by omega)]) rfl ⟨rfl, ((Below.refl _ _).alloc (Nat.le_refl _) _).alloc (by simp) _⟩
end Go.Proofs.YthjjciimbfpokaaGreatDoor
