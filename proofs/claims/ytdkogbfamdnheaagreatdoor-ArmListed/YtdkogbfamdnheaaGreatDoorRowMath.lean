namespace Sx
set_option maxRecDepth 100000
set_option maxHeartbeats 16000000
set_option linter.unusedSimpArgs false
set_option linter.unusedVariables false
def wd (R j : Nat) : Nat := R / 2 ^ (64 * j) % 2 ^ 64
def Qcx (R S : Nat) : Nat := R ^^^ (R &&& S)
theorem Qeu (R j : Nat) : wd R j < 2 ^ 64 := Nat.mod_lt _ (Nat.two_pow_pos 64)
theorem Qbl (R j i : Nat) : (wd R j).testBit i = (decide (i < 64) && R.testBit (64 * j + i)) := by
 unfold wd
 rw [Nat.testBit_mod_two_pow, Nat.testBit_div_two_pow, Nat.add_comm]
theorem Qdq (R S i : Nat) : (Qcx R S).testBit i = (R.testBit i && !S.testBit i) := by
 unfold Qcx
 rw [Nat.testBit_xor, Nat.testBit_and]
 cases R.testBit i <;> cases S.testBit i <;> rfl
theorem Quv (R S j : Nat) : wd (R ||| S) j = wd R j ||| wd S j := by
 apply Nat.eq_of_testBit_eq
 intro i
 rw [Qbl, Nat.testBit_or, Nat.testBit_or, Qbl, Qbl]
 cases decide (i < 64) <;> simp
theorem QCd (R S j : Nat) : wd (R &&& S) j = wd R j &&& wd S j := by
 apply Nat.eq_of_testBit_eq
 intro i
 rw [Qbl, Nat.testBit_and, Nat.testBit_and, Qbl, Qbl]
 cases decide (i < 64) <;> simp
theorem Qly (R S j : Nat) : wd (Qcx R S) j = wd R j &&& (2 ^ 64 - 1 - wd S j) := by
 apply Nat.eq_of_testBit_eq
 intro i
 have h := Qeu S j
 have h2 : (2 ^ 64 - 1 - wd S j).testBit i = (decide (i < 64) && !(wd S j).testBit i) := by
  have := Nat.testBit_two_pow_sub_succ h i
  rw [show 2 ^ 64 - 1 - wd S j = 2 ^ 64 - (wd S j + 1) from by omega]
  exact this
 rw [Qbl, Qdq, Nat.testBit_and, h2, Qbl, Qbl]
 cases decide (i < 64) <;> simp
theorem Qgn (j : Nat) : wd 0 j = 0 := by simp [wd]
theorem Qmp (p j : Nat) : wd (2 ^ p) j = if p / 64 = j then 2 ^ (p % 64) else 0 := by
 apply Nat.eq_of_testBit_eq
 intro i
 rw [Qbl, Nat.testBit_two_pow]
 by_cases h : p / 64 = j
 ·rw [if_pos h, Nat.testBit_two_pow]
  by_cases hi : i < 64
  ·simp only [hi, decide_true, Bool.true_and]
   rw [Bool.eq_iff_iff]; simp; omega
  ·simp only [hi, decide_false, Bool.false_and]
   symm; rw [decide_eq_false_iff_not]; omega
 ·rw [if_neg h, Nat.zero_testBit]
  by_cases hi : i < 64
  ·simp only [hi, decide_true, Bool.true_and]
   rw [decide_eq_false_iff_not]; omega
  ·simp [hi]
theorem Qf9 (R p : Nat) : R.testBit p = (wd R (p / 64) / 2 ^ (p % 64) % 2 == 1) := by
 have h := Qbl R (p / 64) (p % 64)
 have h1 : p % 64 < 64 := Nat.mod_lt _ (by omega)
 rw [show 64 * (p / 64) + p % 64 = p from Nat.div_add_mod p 64] at h
 simp only [h1, decide_true, Bool.true_and] at h
 rw [← h, Nat.testBit_eq_decide_div_mod_eq]
 rw [Bool.eq_iff_iff]; simp
theorem QCe {R S : Nat} (hR : R < 2 ^ 256) (hS : S < 2 ^ 256) (h : ∀ j, j < 4 → wd R j = wd S j) : R = S := by
 apply Nat.eq_of_testBit_eq
 intro i
 by_cases hi : i < 256
 ·rw [Qf9 R i, Qf9 S i, h (i / 64) (by omega)]
 ·rw [Nat.testBit_lt_two_pow (Nat.lt_of_lt_of_le hR (Nat.pow_le_pow_right (by omega) (by omega))), Nat.testBit_lt_two_pow (Nat.lt_of_lt_of_le hS (Nat.pow_le_pow_right (by omega) (by omega)))]
def Qat (R p : Nat) (b : Bool) : Nat := if b then R ||| 2 ^ p else Qcx R (2 ^ p)
theorem Qb2 (R p : Nat) (b : Bool) (i : Nat) : (Qat R p b).testBit i = if i = p then b else R.testBit i := by
 unfold Qat
 cases b
 ·simp only [Bool.false_eq_true, if_false, Qdq, Nat.testBit_two_pow]
  by_cases h : i = p
  ·subst h; simp
  ·rw [if_neg h, decide_eq_false (fun e => h e.symm)]; simp
 ·simp only [if_true, Nat.testBit_or, Nat.testBit_two_pow]
  by_cases h : i = p
  ·subst h; simp
  ·rw [if_neg h, decide_eq_false (fun e => h e.symm)]; simp
theorem Qc0 {R n : Nat} (h : ∀ i, n ≤ i → R.testBit i = false) : R < 2 ^ n := Nat.lt_pow_two_of_testBit R h
theorem Qb9 {R n i : Nat} (h : R < 2 ^ n) (hi : n ≤ i) : R.testBit i = false :=
 Nat.testBit_lt_two_pow (Nat.lt_of_lt_of_le h (Nat.pow_le_pow_right (by omega) hi))
theorem Qo7 {R S n : Nat} (h : R < 2 ^ n) (k : S < 2 ^ n) : R ||| S < 2 ^ n := Nat.or_lt_two_pow h k
theorem Qq0 {R S n : Nat} (h : R < 2 ^ n) : R &&& S < 2 ^ n := Qc0 fun i hi => by rw [Nat.testBit_and, Qb9 h hi, Bool.false_and]
theorem Qq1 {R S n : Nat} (h : R < 2 ^ n) : Qcx R S < 2 ^ n := Qc0 fun i hi => by rw [Qdq, Qb9 h hi, Bool.false_and]
theorem Qsx {R p n : Nat} {b : Bool} (h : R < 2 ^ n) (hp : p < n) : Qat R p b < 2 ^ n := Qc0 fun i hi => by rw [Qb2, if_neg (by omega), Qb9 h hi]
end Sx
