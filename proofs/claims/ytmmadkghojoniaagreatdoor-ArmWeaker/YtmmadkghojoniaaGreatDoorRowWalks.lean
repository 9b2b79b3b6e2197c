/- The contracts of package rel's rows: has, with, empty, points. -/
import Derived.Test.YtmmadkghojoniaaGreatDoorRows
import Derived.Test.YtmmadkghojoniaaGreatDoorRowMath
import Derived.WalkKit
import Derived.WalkSpells
import Derived.WalkLawsBesides
namespace Go.Proofs.YtmmadkghojoniaaGreatDoor
open Go.RowKit Sx
abbrev rv (R : Nat) : Value := .agg #[.int .u64 ((wd R 0 : Nat) : Int), .int .u64 ((wd R 1 : Nat) : Int), .int .u64 ((wd R 2 : Nat) : Int), .int .u64 ((wd R 3 : Nat) : Int)]
theorem at4 (f : Nat → Value) (j : Nat) (h : j < 4) : [f 0, f 1, f 2, f 3][j]? = some (f j) := by
  match j, h with
  | 0, _ => rfl
  | 1, _ => rfl
  | 2, _ => rfl
  | 3, _ => rfl
theorem word_at (R j : Nat) (h : j < 4) : [Value.int .u64 ((wd R 0 : Nat) : Int), .int .u64 ((wd R 1 : Nat) : Int), .int .u64 ((wd R 2 : Nat) : Int), .int .u64 ((wd R 3 : Nat) : Int)][j]? = some (.int .u64 ((wd R j : Nat) : Int)) :=
  at4 (fun j => .int .u64 ((wd R j : Nat) : Int)) j h
theorem has_bit (R p : Nat) : (bits BinOp.and IntKind.u64 (((wd R (p / 64) : Nat) : Int) / 2 ^ (p % 64)) 1 == 1) = R.testBit p := by
  rw [show (((wd R (p / 64) : Nat) : Int) / 2 ^ (p % 64)) = ((wd R (p / 64) / 2 ^ (p % 64) : Nat) : Int) from by simp]
  have hlt : wd R (p / 64) / 2 ^ (p % 64) < 18446744073709551616 := Nat.lt_of_le_of_lt (Nat.div_le_self _ _) (wd_lt R (p / 64))
  have h := u64_and_nat (wd R (p / 64) / 2 ^ (p % 64)) 1 hlt (by omega)
  rw [show ((1 : Nat) : Int) = 1 from rfl] at h
  rw [h, Nat.and_one_is_mod, testBit_eq_wd R p, Bool.eq_iff_iff]
  simp only [beq_iff_eq]
  omega
set_option maxHeartbeats 400000 in
theorem has_calls (R p : Nat) (hp : p < 256) (w : World) :
    Calls Tryz.prog 59 #[rv R, .int .i64 p] w fun e w' => e = .returned (.bool (R.testBit p)) ∧ Below w.heap.size w w' := by
  have hx := word_at R (p / 64) (by omega)
  go_enter Tryz.func59, Tryz.ntmps59
  go_wp2
  go_ret
  exact ⟨congrArg (fun b => Ending.returned (.bool b)) (has_bit R p), (Below.refl _ _).alloc (Nat.le_refl _) _⟩
theorem wrap_pow (r : Nat) (h : r < 64) : IntKind.u64.wrap (2 ^ r) = ((2 ^ r : Nat) : Int) := by
  have h64 : (2 : Nat) ^ r < 18446744073709551616 := Nat.pow_lt_pow_right (by omega) h
  rw [show ((2 : Int) ^ r) = ((2 ^ r : Nat) : Int) from by simp]
  have h0 : (0 : Int) ≤ ((2 ^ r : Nat) : Int) := Int.natCast_nonneg _
  have h1 : ((2 ^ r : Nat) : Int) < 18446744073709551616 := by omega
  generalize ((2 ^ r : Nat) : Int) = x at *
  simp only [IntKind.wrap]
  simp [IntKind.bits, IntKind.signed]
  omega
theorem with_or (R p j : Nat) (h : p / 64 = j) : (bits BinOp.or IntKind.u64 ((wd R j : Nat) : Int) (IntKind.u64.wrap (2 ^ (p % 64)))) = ((wd (setB R p true) j : Nat) : Int) := by
  have h64 : (2 : Nat) ^ (p % 64) < 18446744073709551616 := Nat.pow_lt_pow_right (by omega) (Nat.mod_lt _ (by omega) : p % 64 < 64)
  rw [wrap_pow _ (Nat.mod_lt _ (by omega)), u64_or_nat _ _ (wd_lt R j) h64]
  simp only [setB, if_true]
  rw [wd_or, wd_bit, if_pos h]
theorem with_not (R p j : Nat) (h : p / 64 = j) : (bits BinOp.andNot IntKind.u64 ((wd R j : Nat) : Int) (IntKind.u64.wrap (2 ^ (p % 64)))) = ((wd (setB R p false) j : Nat) : Int) := by
  have h64 : (2 : Nat) ^ (p % 64) < 18446744073709551616 := Nat.pow_lt_pow_right (by omega) (Nat.mod_lt _ (by omega) : p % 64 < 64)
  rw [wrap_pow _ (Nat.mod_lt _ (by omega)), u64_andNot_nat _ _ (wd_lt R j) h64]
  simp only [setB, Bool.false_eq_true, if_false]
  rw [wd_ldiff, wd_bit, if_pos h]
theorem with_other (R p j : Nat) (b : Bool) (h : ¬ p / 64 = j) : wd (setB R p b) j = wd R j := by
  cases b
  · simp only [setB, Bool.false_eq_true, if_false]
    rw [wd_ldiff, wd_bit, if_neg h, Nat.sub_zero, Nat.and_two_pow_sub_one_eq_mod, Nat.mod_eq_of_lt (wd_lt R j)]
  · simp only [setB, if_true]
    rw [wd_or, wd_bit, if_neg h, Nat.or_zero]
set_option maxHeartbeats 400000 in
theorem with_calls (R p : Nat) (b : Bool) (hp : p < 256) (w : World) :
    Calls Tryz.prog 60 #[rv R, .int .i64 p, .bool b] w fun e w' => e = .returned (rv (setB R p b)) ∧ Below w.heap.size w w' := by
  have hj : p / 64 = 0 ∨ p / 64 = 1 ∨ p / 64 = 2 ∨ p / 64 = 3 := by omega
  have HO : Hid (∀ j, ¬ p / 64 = j → wd R j = wd (setB R p b) j) := fun j h => (with_other R p j b h).symm
  cases b
  · rcases hj with hj | hj | hj | hj
    · have HS : Hid (_ = _) := with_not R p _ hj
      go_enter Tryz.func60, Tryz.ntmps60
      go_wp2
      rw [HS.out]
      exact bodyPost_ret (v := rv (setB R p false)) (by simp [results, Tryz.results60, go_sem, HO.out 1 (by omega), HO.out 2 (by omega), HO.out 3 (by omega)]) rfl ⟨rfl, ((Below.refl _ _).alloc (Nat.le_refl _) _).alloc (by simp) _⟩
    · have HS : Hid (_ = _) := with_not R p _ hj
      go_enter Tryz.func60, Tryz.ntmps60
      go_wp2
      rw [HS.out]
      exact bodyPost_ret (v := rv (setB R p false)) (by simp [results, Tryz.results60, go_sem, HO.out 0 (by omega), HO.out 2 (by omega), HO.out 3 (by omega)]) rfl ⟨rfl, ((Below.refl _ _).alloc (Nat.le_refl _) _).alloc (by simp) _⟩
    · have HS : Hid (_ = _) := with_not R p _ hj
      go_enter Tryz.func60, Tryz.ntmps60
      go_wp2
      rw [HS.out]
      exact bodyPost_ret (v := rv (setB R p false)) (by simp [results, Tryz.results60, go_sem, HO.out 0 (by omega), HO.out 1 (by omega), HO.out 3 (by omega)]) rfl ⟨rfl, ((Below.refl _ _).alloc (Nat.le_refl _) _).alloc (by simp) _⟩
    · have HS : Hid (_ = _) := with_not R p _ hj
      go_enter Tryz.func60, Tryz.ntmps60
      go_wp2
      rw [HS.out]
      exact bodyPost_ret (v := rv (setB R p false)) (by simp [results, Tryz.results60, go_sem, HO.out 0 (by omega), HO.out 1 (by omega), HO.out 2 (by omega)]) rfl ⟨rfl, ((Below.refl _ _).alloc (Nat.le_refl _) _).alloc (by simp) _⟩
  · rcases hj with hj | hj | hj | hj
    · have HS : Hid (_ = _) := with_or R p _ hj
      go_enter Tryz.func60, Tryz.ntmps60
      go_wp2
      rw [HS.out]
      exact bodyPost_ret (v := rv (setB R p true)) (by simp [results, Tryz.results60, go_sem, HO.out 1 (by omega), HO.out 2 (by omega), HO.out 3 (by omega)]) rfl ⟨rfl, ((Below.refl _ _).alloc (Nat.le_refl _) _).alloc (by simp) _⟩
    · have HS : Hid (_ = _) := with_or R p _ hj
      go_enter Tryz.func60, Tryz.ntmps60
      go_wp2
      rw [HS.out]
      exact bodyPost_ret (v := rv (setB R p true)) (by simp [results, Tryz.results60, go_sem, HO.out 0 (by omega), HO.out 2 (by omega), HO.out 3 (by omega)]) rfl ⟨rfl, ((Below.refl _ _).alloc (Nat.le_refl _) _).alloc (by simp) _⟩
    · have HS : Hid (_ = _) := with_or R p _ hj
      go_enter Tryz.func60, Tryz.ntmps60
      go_wp2
      rw [HS.out]
      exact bodyPost_ret (v := rv (setB R p true)) (by simp [results, Tryz.results60, go_sem, HO.out 0 (by omega), HO.out 1 (by omega), HO.out 3 (by omega)]) rfl ⟨rfl, ((Below.refl _ _).alloc (Nat.le_refl _) _).alloc (by simp) _⟩
    · have HS : Hid (_ = _) := with_or R p _ hj
      go_enter Tryz.func60, Tryz.ntmps60
      go_wp2
      rw [HS.out]
      exact bodyPost_ret (v := rv (setB R p true)) (by simp [results, Tryz.results60, go_sem, HO.out 0 (by omega), HO.out 1 (by omega), HO.out 2 (by omega)]) rfl ⟨rfl, ((Below.refl _ _).alloc (Nat.le_refl _) _).alloc (by simp) _⟩
end Go.Proofs.YtmmadkghojoniaaGreatDoor
