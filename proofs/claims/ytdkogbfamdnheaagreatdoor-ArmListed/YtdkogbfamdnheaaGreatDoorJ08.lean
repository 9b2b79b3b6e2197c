import Derived.Test.YtdkogbfamdnheaaGreatDoorRowMath
import Derived.Lib.TrailingZeros
namespace Sx
open Go
set_option maxRecDepth 100000
set_option maxHeartbeats 16000000
set_option linter.unusedSimpArgs false
set_option linter.unusedVariables false
theorem Qn3 (x : Nat) (h0 : x ≠ 0) (h : x < 2 ^ 64) : ∃ m, x = 2 ^ (Lib.ctz 64 x) * (2 * m + 1) ∧ Lib.ctz 64 x < 64 := by
 unfold Lib.ctz
 rw [if_neg h0]
 exact Lib.ctzFrom_spec 64 x (by omega) h
theorem Qle (k m i : Nat) : (2 ^ k * (2 * m + 1)).testBit i = if i < k then false else if i = k then true else m.testBit (i - (k + 1)) := by
 have e : 2 ^ k * (2 * m + 1) = 2 ^ (k + 1) * m + 2 ^ k := by rw [Nat.mul_add, Nat.pow_succ, Nat.mul_assoc, Nat.mul_one]
 have hlt : 2 ^ k < 2 ^ (k + 1) := Nat.pow_lt_pow_right (by omega) (by omega)
 rw [e, Nat.testBit_two_pow_mul_add _ hlt, Nat.testBit_two_pow]
 by_cases h1 : i < k
 ·rw [if_pos (by omega), if_pos h1, decide_eq_false (by omega)]
 ·by_cases h2 : i = k
  ·rw [if_pos (by omega), if_neg h1, if_pos h2, decide_eq_true h2.symm]
  ·rw [if_neg (by omega), if_neg h1, if_neg h2]
theorem Qot (k m i : Nat) : (2 ^ k * (2 * m + 1) - 1).testBit i = if i < k then true else if i = k then false else m.testBit (i - (k + 1)) := by
 have hp : 0 < 2 ^ k := Nat.two_pow_pos k
 have e : 2 ^ k * (2 * m + 1) - 1 = 2 ^ (k + 1) * m + (2 ^ k - 1) := by rw [Nat.mul_add, Nat.pow_succ, Nat.mul_assoc, Nat.mul_one]; omega
 have hlt : 2 ^ k - 1 < 2 ^ (k + 1) := by rw [Nat.pow_succ]; omega
 rw [e, Nat.testBit_two_pow_mul_add _ hlt, Nat.testBit_two_pow_sub_one]
 by_cases h1 : i < k
 ·rw [if_pos (by omega), if_pos h1, decide_eq_true h1]
 ·by_cases h2 : i = k
  ·rw [if_pos (by omega), if_neg h1, if_pos h2, decide_eq_false h1]
  ·rw [if_neg (by omega), if_neg h1, if_neg h2]
theorem Qzw (x : Nat) (h0 : x ≠ 0) (h : x < 2 ^ 64) :
  x.testBit (Lib.ctz 64 x) = true ∧ (∀ i, i < Lib.ctz 64 x → x.testBit i = false) ∧ (∀ i, (x &&& (x - 1)).testBit i = (x.testBit i && decide (i ≠ Lib.ctz 64 x))) := by
 obtain ⟨m, hm, hk⟩ := Qn3 x h0 h
 generalize Lib.ctz 64 x = k at *
 subst hm
 refine ⟨?_, fun i hi => ?_, fun i => ?_⟩
 ·rw [Qle, if_neg (by omega), if_pos rfl]
 ·rw [Qle, if_pos hi]
 ·rw [Nat.testBit_and, Qle, Qot]
  by_cases h1 : i < k
  ·simp [h1]
  ·by_cases h2 : i = k
   ·simp [h2]
   ·simp [h1, h2]
theorem Qre (x : Nat) (h0 : x ≠ 0) : x &&& (x - 1) < x := Nat.lt_of_le_of_lt Nat.and_le_right (by omega)
def Qcq (n x : Nat) : List Nat := (List.range n).filter x.testBit
theorem Qtr (n x k : Nat) (y : Nat) (hk : k < n) (h1 : x.testBit k = true) (h2 : ∀ i, i < k → x.testBit i = false) (h3 : ∀ i, y.testBit i = (x.testBit i && decide (i ≠ k))) :
  Qcq n x = k :: Qcq n y := by
 unfold Qcq
 obtain ⟨d, rfl⟩ : ∃ d, n = k + (d + 1) := ⟨n - k - 1, by omega⟩
 rw [List.range_add, List.filter_append, List.filter_append]
 have e1 : (List.range k).filter x.testBit = [] := by
  rw [List.filter_eq_nil_iff]; intro a ha; rw [h2 a (List.mem_range.1 ha)]; simp
 have e2 : (List.range k).filter y.testBit = [] := by
  rw [List.filter_eq_nil_iff]; intro a ha; rw [h3, h2 a (List.mem_range.1 ha)]; simp
 rw [e1, e2, List.nil_append, List.nil_append, List.range_succ_eq_map, List.map_cons, List.filter_cons, List.filter_cons]
 have e3 : y.testBit (k + 0) = false := by rw [h3]; simp
 rw [Nat.add_zero, h1, if_pos rfl, show y.testBit k = false from e3, if_neg (by simp)]
 congr 1
 apply List.filter_congr
 intro a ha
 rw [h3]
 simp at ha
 obtain ⟨b, _, rfl⟩ := ha
 simp
theorem Qm (n : Nat) : Qcq n 0 = [] := by simp [Qcq]
theorem Qn4 {n x i : Nat} : i ∈ Qcq n x ↔ i < n ∧ x.testBit i = true := by simp [Qcq, List.mem_filter]
def Qad (R : Nat) : List Nat := Qcq 256 R
def Qd1 (R j : Nat) : List Nat := (Qcq 64 (wd R j)).map (j * 64 + ·)
theorem Qv3 : List.range 256 = (List.range 64).map (0 * 64 + ·) ++ ((List.range 64).map (1 * 64 + ·) ++ ((List.range 64).map (2 * 64 + ·) ++ (List.range 64).map (3 * 64 + ·))) := by decide +kernel
theorem Qp2 (R : Nat) : Qad R = Qd1 R 0 ++ (Qd1 R 1 ++ (Qd1 R 2 ++ Qd1 R 3)) := by
 have h : ∀ j, ((List.range 64).map (j * 64 + ·)).filter R.testBit = Qd1 R j := by
  intro j
  rw [List.filter_map]
  unfold Qd1 Qcq
  congr 1
  apply List.filter_congr
  intro a ha
  rw [Qbl, decide_eq_true (List.mem_range.1 ha), Bool.true_and, Nat.mul_comm 64 j]
  rfl
 unfold Qad Qcq
 rw [Qv3, List.filter_append, List.filter_append, List.filter_append, h, h, h, h]
def Qga (R : Nat) : Nat → List Nat
 | 0 => Qd1 R 0 ++ (Qd1 R 1 ++ (Qd1 R 2 ++ Qd1 R 3))
 | 1 => Qd1 R 1 ++ (Qd1 R 2 ++ Qd1 R 3)
 | 2 => Qd1 R 2 ++ Qd1 R 3
 | 3 => Qd1 R 3
 | _ => []
theorem Qts (R j : Nat) (h : j < 4) : Qga R j = Qd1 R j ++ Qga R (j + 1) := by
 have : j = 0 ∨ j = 1 ∨ j = 2 ∨ j = 3 := by omega
 rcases this with rfl | rfl | rfl | rfl <;> simp [Qga]
theorem Qbk {R p : Nat} : p ∈ Qad R ↔ p < 256 ∧ R.testBit p = true := Qn4
theorem Qjc (R : Nat) : (Qad R).length ≤ 256 := by
 have := List.length_filter_le R.testBit (List.range 256)
 simpa [Qad, Qcq] using this
end Sx
namespace Sx
set_option maxRecDepth 100000
set_option maxHeartbeats 16000000
set_option linter.unusedSimpArgs false
set_option linter.unusedVariables false
end Sx
