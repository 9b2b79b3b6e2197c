/- Counting the set bits of a word by adding fields: plain facts. -/
import Derived.Test.YtpflelkdkpabbaaDoorBitMath
namespace Sx

/-- Digits to the base 2^k. -/
def valD (k : Nat) : List Nat → Nat
  | [] => 0
  | d :: ds => d + 2 ^ k * valD k ds
/-- m fields of k ones, k zeros between. -/
def maskD (k : Nat) : Nat → Nat
  | 0 => 0
  | m + 1 => (2 ^ k - 1) + 2 ^ (2 * k) * maskD k m
/-- Neighbours added. -/
def pairD : List Nat → List Nat
  | a :: b :: ds => (a + b) :: pairD ds
  | _ => []

theorem and_split (n p q r s : Nat) (hp : p < 2 ^ n) (hr : r < 2 ^ n) : (p + 2 ^ n * q) &&& (r + 2 ^ n * s) = (p &&& r) + 2 ^ n * (q &&& s) := by
  have hpr : p &&& r < 2 ^ n := and_lt hp
  apply Nat.eq_of_testBit_eq
  intro i
  rw [Nat.add_comm p, Nat.add_comm r, Nat.add_comm (p &&& r), Nat.testBit_and, Nat.testBit_two_pow_mul_add _ hp, Nat.testBit_two_pow_mul_add _ hr, Nat.testBit_two_pow_mul_add _ hpr]
  split
  · rw [Nat.testBit_and]
  · rw [Nat.testBit_and]
theorem low_mask (k a b : Nat) (ha : a < 2 ^ k) : (a + 2 ^ k * b) &&& (2 ^ k - 1) = a := by
  rw [Nat.and_two_pow_sub_one_eq_mod, Nat.add_mul_mod_self_left, Nat.mod_eq_of_lt ha]
theorem pow_two_mul (k : Nat) : 2 ^ (2 * k) = 2 ^ k * 2 ^ k := by rw [Nat.two_mul, Nat.pow_add]
theorem pair_lt {k a b : Nat} (ha : a < 2 ^ k) (hb : b < 2 ^ k) : a + 2 ^ k * b < 2 ^ (2 * k) := by
  rw [pow_two_mul]
  have : 2 ^ k * b ≤ 2 ^ k * (2 ^ k - 1) := Nat.mul_le_mul_left _ (by omega)
  have h2 : 2 ^ k * (2 ^ k - 1) + 2 ^ k = 2 ^ k * 2 ^ k := by rw [Nat.mul_sub]; have := Nat.mul_le_mul_left (2 ^ k) (Nat.two_pow_pos k); omega
  omega
theorem mask_lt (k : Nat) : 2 ^ k - 1 < 2 ^ (2 * k) := by
  have h1 := Nat.two_pow_pos k
  have h2 : 2 ^ k ≤ 2 ^ (2 * k) := Nat.pow_le_pow_right (by omega) (by omega)
  omega
theorem val_pair (k a b : Nat) (ds : List Nat) : valD k (a :: b :: ds) = (a + 2 ^ k * b) + 2 ^ (2 * k) * valD k ds := by
  simp only [valD]; rw [pow_two_mul, Nat.mul_add, Nat.mul_assoc]; omega

theorem fields_even (k : Nat) : ∀ (m : Nat) (ds : List Nat), ds.length = 2 * m → (∀ d ∈ ds, d < 2 ^ k) →
    (valD k ds &&& maskD k m) + ((valD k ds / 2 ^ k) &&& maskD k m) = valD (2 * k) (pairD ds)
  | 0, ds, hl, _ => by
    have : ds = [] := List.eq_nil_of_length_eq_zero (by omega)
    subst this; simp [valD, maskD, pairD]
  | m + 1, a :: b :: ds, hl, h => by
    have ha := h a (by simp)
    have hb := h b (by simp)
    have ih := fields_even k m ds (by simp at hl; omega) (fun d hd => h d (by simp [hd]))
    have hp := Nat.two_pow_pos k
    rw [val_pair]
    have e1 : (a + 2 ^ k * b + 2 ^ (2 * k) * valD k ds) / 2 ^ k = b + 2 ^ k * valD k ds := by
      rw [pow_two_mul, Nat.mul_assoc, Nat.add_assoc, ← Nat.mul_add, Nat.add_mul_div_left _ _ hp, Nat.div_eq_of_lt ha, Nat.zero_add]
    rw [e1]
    simp only [maskD, pairD, valD]
    rw [and_split (2 * k) _ _ _ _ (pair_lt ha hb) (mask_lt k), low_mask k a b ha]
    have e2 : b + 2 ^ k * valD k ds = (b + 2 ^ k * (valD k ds % 2 ^ k)) + 2 ^ (2 * k) * (valD k ds / 2 ^ k) := by
      have := Nat.div_add_mod (valD k ds) (2 ^ k)
      rw [pow_two_mul, Nat.mul_assoc, Nat.add_assoc, ← Nat.mul_add, Nat.add_comm (valD k ds % 2 ^ k), this]
    rw [e2, and_split (2 * k) _ _ _ _ (pair_lt hb (Nat.mod_lt _ hp)) (mask_lt k), low_mask k b _ hb, ← ih, Nat.mul_add]
    omega
  | m + 1, [], hl, _ => by simp at hl
  | m + 1, [a], hl, _ => by simp at hl; omega

theorem fields_sum (k : Nat) : ∀ (m : Nat) (ds : List Nat), ds.length = 2 * m → (∀ d ∈ ds, 2 * d < 2 ^ k) →
    ((valD k ds / 2 ^ k + valD k ds) &&& maskD k m) = valD (2 * k) (pairD ds)
  | 0, ds, hl, _ => by
    have : ds = [] := List.eq_nil_of_length_eq_zero (by omega)
    subst this; simp [valD, maskD, pairD]
  | m + 1, a :: b :: ds, hl, h => by
    have ha := h a (by simp)
    have hb := h b (by simp)
    have ih := fields_sum k m ds (by simp at hl; omega) (fun d hd => h d (by simp [hd]))
    have hp := Nat.two_pow_pos k
    have hy : 2 * (valD k ds % 2 ^ k) < 2 ^ k := by
      cases ds with
      | nil => simp [valD]; exact hp
      | cons d ds' =>
        have hd := h d (by simp)
        simp only [valD]
        rw [Nat.add_mul_mod_self_left, Nat.mod_eq_of_lt (by omega)]
        exact hd
    rw [val_pair]
    have e1 : (a + 2 ^ k * b + 2 ^ (2 * k) * valD k ds) / 2 ^ k = b + 2 ^ k * valD k ds := by
      rw [pow_two_mul, Nat.mul_assoc, Nat.add_assoc, ← Nat.mul_add, Nat.add_mul_div_left _ _ hp, Nat.div_eq_of_lt (by omega), Nat.zero_add]
    rw [e1]
    simp only [maskD, pairD, valD]
    have e2 : b + 2 ^ k * valD k ds + (a + 2 ^ k * b + 2 ^ (2 * k) * valD k ds) = ((a + b) + 2 ^ k * (b + valD k ds % 2 ^ k)) + 2 ^ (2 * k) * (valD k ds / 2 ^ k + valD k ds) := by
      have := Nat.div_add_mod (valD k ds) (2 ^ k)
      have h3 : 2 ^ k * valD k ds = 2 ^ (2 * k) * (valD k ds / 2 ^ k) + 2 ^ k * (valD k ds % 2 ^ k) := by
        rw [pow_two_mul, Nat.mul_assoc, ← Nat.mul_add, this]
      rw [h3, Nat.mul_add, Nat.mul_add]; omega
    rw [e2, and_split (2 * k) _ _ _ _ (pair_lt (by omega) (by omega)) (mask_lt k), low_mask k (a + b) _ (by omega), ih]
  | m + 1, [], hl, _ => by simp at hl
  | m + 1, [a], hl, _ => by simp at hl; omega

def sumD (l : List Nat) : Nat := l.foldr (· + ·) 0
theorem sum_pair : ∀ (m : Nat) (ds : List Nat), ds.length = 2 * m → sumD (pairD ds) = sumD ds ∧ (pairD ds).length = m
  | 0, ds, hl => by
    have : ds = [] := List.eq_nil_of_length_eq_zero (by omega)
    subst this; simp [pairD, sumD]
  | m + 1, a :: b :: ds, hl => by
    have ih := sum_pair m ds (by simp at hl; omega)
    simp only [pairD, sumD, List.foldr_cons, List.length_cons]
    have h1 := ih.1
    simp only [sumD] at h1
    exact ⟨by omega, by rw [ih.2]⟩
  | m + 1, [], hl => by simp at hl
  | m + 1, [a], hl => by simp at hl; omega
theorem pair_le (B : Nat) : ∀ (m : Nat) (ds : List Nat), ds.length = 2 * m → (∀ d ∈ ds, d ≤ B) → ∀ d ∈ pairD ds, d ≤ 2 * B
  | 0, ds, hl, _ => by
    have : ds = [] := List.eq_nil_of_length_eq_zero (by omega)
    subst this; simp [pairD]
  | m + 1, a :: b :: ds, hl, h => by
    have ih := pair_le B m ds (by simp at hl; omega) (fun d hd => h d (by simp [hd]))
    have ha := h a (by simp)
    have hb := h b (by simp)
    intro d hd
    simp only [pairD, List.mem_cons] at hd
    rcases hd with rfl | hd
    · omega
    · exact ih d hd
  | m + 1, [], hl, _ => by simp at hl
  | m + 1, [a], hl, _ => by simp at hl; omega

/-- The bits of x as digits, the first n. -/
def bitD (x : Nat) : Nat → List Nat
  | 0 => []
  | n + 1 => (x % 2) :: bitD (x / 2) n
theorem bitD_length (n : Nat) : ∀ x, (bitD x n).length = n := by
  induction n with
  | zero => intro x; rfl
  | succ n ih => intro x; simp [bitD, ih]
theorem bitD_le (n : Nat) : ∀ x, ∀ d ∈ bitD x n, d ≤ 1 := by
  induction n with
  | zero => intro x d hd; cases hd
  | succ n ih =>
    intro x d hd
    simp only [bitD, List.mem_cons] at hd
    rcases hd with rfl | hd
    · omega
    · exact ih _ d hd
theorem val_bitD (n : Nat) : ∀ x, x < 2 ^ n → valD 1 (bitD x n) = x := by
  induction n with
  | zero => intro x h; simp at h; subst h; rfl
  | succ n ih =>
    intro x h
    simp only [bitD, valD]
    rw [ih (x / 2) (by rw [Nat.pow_succ] at h; omega)]
    omega
theorem sum_bitD (n : Nat) : ∀ x, sumD (bitD x n) = (bitsN n x).length := by
  induction n with
  | zero => intro x; rfl
  | succ n ih =>
    intro x
    have e : (bitsN (n + 1) x).length = (if x.testBit 0 then 1 else 0) + (bitsN n (x / 2)).length := by
      unfold bitsN
      rw [List.range_succ_eq_map, List.filter_cons, List.filter_map]
      have hc : List.filter (x.testBit ∘ Nat.succ) (List.range n) = List.filter (x / 2).testBit (List.range n) := by
        apply List.filter_congr
        intro i _
        simp only [Function.comp, Nat.succ_eq_add_one, Nat.testBit_succ]
      rw [hc]
      split
      · simp; omega
      · simp
    rw [e, ← ih (x / 2)]
    simp only [bitD, sumD, List.foldr_cons]
    rw [Nat.testBit_zero]
    congr 1
    by_cases h : x % 2 = 1
    · simp [h]
    · have : x % 2 = 0 := by omega
      simp [this]
end Sx
