/- Plain facts on the set bits of a row, and on the lowest set bit of a word. -/
import Derived.Test.YthiijcappjaagaaGreatDoorRowMath
import Derived.Lib.TrailingZeros
namespace Sx
open Go
theorem ctz_split (x : Nat) (h0 : x ≠ 0) (h : x < 2 ^ 64) : ∃ m, x = 2 ^ (Lib.ctz 64 x) * (2 * m + 1) ∧ Lib.ctz 64 x < 64 := by
  unfold Lib.ctz
  rw [if_neg h0]
  exact Lib.ctzFrom_spec 64 x (by omega) h
theorem bits_odd (k m i : Nat) : (2 ^ k * (2 * m + 1)).testBit i = if i < k then false else if i = k then true else m.testBit (i - (k + 1)) := by
  have e : 2 ^ k * (2 * m + 1) = 2 ^ (k + 1) * m + 2 ^ k := by rw [Nat.mul_add, Nat.pow_succ, Nat.mul_assoc, Nat.mul_one]
  have hlt : 2 ^ k < 2 ^ (k + 1) := Nat.pow_lt_pow_right (by omega) (by omega)
  rw [e, Nat.testBit_two_pow_mul_add _ hlt, Nat.testBit_two_pow]
  by_cases h1 : i < k
  · rw [if_pos (by omega), if_pos h1, decide_eq_false (by omega)]
  · by_cases h2 : i = k
    · rw [if_pos (by omega), if_neg h1, if_pos h2, decide_eq_true h2.symm]
    · rw [if_neg (by omega), if_neg h1, if_neg h2]
theorem bits_odd_pred (k m i : Nat) : (2 ^ k * (2 * m + 1) - 1).testBit i = if i < k then true else if i = k then false else m.testBit (i - (k + 1)) := by
  have hp : 0 < 2 ^ k := Nat.two_pow_pos k
  have e : 2 ^ k * (2 * m + 1) - 1 = 2 ^ (k + 1) * m + (2 ^ k - 1) := by rw [Nat.mul_add, Nat.pow_succ, Nat.mul_assoc, Nat.mul_one]; omega
  have hlt : 2 ^ k - 1 < 2 ^ (k + 1) := by rw [Nat.pow_succ]; omega
  rw [e, Nat.testBit_two_pow_mul_add _ hlt, Nat.testBit_two_pow_sub_one]
  by_cases h1 : i < k
  · rw [if_pos (by omega), if_pos h1, decide_eq_true h1]
  · by_cases h2 : i = k
    · rw [if_pos (by omega), if_neg h1, if_pos h2, decide_eq_false h1]
    · rw [if_neg (by omega), if_neg h1, if_neg h2]
theorem low_bit (x : Nat) (h0 : x ≠ 0) (h : x < 2 ^ 64) :
    x.testBit (Lib.ctz 64 x) = true ∧ (∀ i, i < Lib.ctz 64 x → x.testBit i = false) ∧ (∀ i, (x &&& (x - 1)).testBit i = (x.testBit i && decide (i ≠ Lib.ctz 64 x))) := by
  obtain ⟨m, hm, hk⟩ := ctz_split x h0 h
  generalize Lib.ctz 64 x = k at *
  subst hm
  refine ⟨?_, fun i hi => ?_, fun i => ?_⟩
  · rw [bits_odd, if_neg (by omega), if_pos rfl]
  · rw [bits_odd, if_pos hi]
  · rw [Nat.testBit_and, bits_odd, bits_odd_pred]
    by_cases h1 : i < k
    · simp [h1]
    · by_cases h2 : i = k
      · simp [h2]
      · simp [h1, h2]
theorem and_pred_lt (x : Nat) (h0 : x ≠ 0) : x &&& (x - 1) < x := Nat.lt_of_le_of_lt Nat.and_le_right (by omega)
def bitsN (n x : Nat) : List Nat := (List.range n).filter x.testBit
theorem bitsN_peel (n x k : Nat) (y : Nat) (hk : k < n) (h1 : x.testBit k = true) (h2 : ∀ i, i < k → x.testBit i = false) (h3 : ∀ i, y.testBit i = (x.testBit i && decide (i ≠ k))) :
    bitsN n x = k :: bitsN n y := by
  unfold bitsN
  obtain ⟨d, rfl⟩ : ∃ d, n = k + (d + 1) := ⟨n - k - 1, by omega⟩
  rw [List.range_add, List.filter_append, List.filter_append]
  have e1 : (List.range k).filter x.testBit = [] := by
    rw [List.filter_eq_nil_iff]; intro a ha; rw [h2 a (List.mem_range.1 ha)]; simp
  have e2 : (List.range k).filter y.testBit = [] := by
    rw [List.filter_eq_nil_iff]; intro a ha; rw [h3, h2 a (List.mem_range.1 ha)]; simp
  rw [e1, e2, List.nil_append, List.nil_append, List.range_succ_eq_map, List.map_cons, List.filter_cons, List.filter_cons]
  have e3 : y.testBit (k + 0) = false := by rw [h3]; simp
  rw [Nat.add_zero, h1, if_pos rfl, show y.testBit k = false from e3, if_neg (by simp)]
  congr 1
  apply List.filter_congr
  intro a ha
  rw [h3]
  simp at ha
  obtain ⟨b, _, rfl⟩ := ha
  simp
theorem bitsN_zero (n : Nat) : bitsN n 0 = [] := by simp [bitsN]
theorem mem_bitsN {n x i : Nat} : i ∈ bitsN n x ↔ i < n ∧ x.testBit i = true := by simp [bitsN, List.mem_filter]
def bitsOf (R : Nat) : List Nat := bitsN 256 R
def wpts (R j : Nat) : List Nat := (bitsN 64 (wd R j)).map (j * 64 + ·)
theorem range_256 : List.range 256 = (List.range 64).map (0 * 64 + ·) ++ ((List.range 64).map (1 * 64 + ·) ++ ((List.range 64).map (2 * 64 + ·) ++ (List.range 64).map (3 * 64 + ·))) := by decide +kernel
theorem bitsOf_words (R : Nat) : bitsOf R = wpts R 0 ++ (wpts R 1 ++ (wpts R 2 ++ wpts R 3)) := by
  have h : ∀ j, ((List.range 64).map (j * 64 + ·)).filter R.testBit = wpts R j := by
    intro j
    rw [List.filter_map]
    unfold wpts bitsN
    congr 1
    apply List.filter_congr
    intro a ha
    rw [testBit_wd, decide_eq_true (List.mem_range.1 ha), Bool.true_and, Nat.mul_comm 64 j]
    rfl
  unfold bitsOf bitsN
  rw [range_256, List.filter_append, List.filter_append, List.filter_append, h, h, h, h]
def tailW (R : Nat) : Nat → List Nat
  | 0 => wpts R 0 ++ (wpts R 1 ++ (wpts R 2 ++ wpts R 3))
  | 1 => wpts R 1 ++ (wpts R 2 ++ wpts R 3)
  | 2 => wpts R 2 ++ wpts R 3
  | 3 => wpts R 3
  | _ => []
theorem tailW_step (R j : Nat) (h : j < 4) : tailW R j = wpts R j ++ tailW R (j + 1) := by
  have : j = 0 ∨ j = 1 ∨ j = 2 ∨ j = 3 := by omega
  rcases this with rfl | rfl | rfl | rfl <;> simp [tailW]
theorem mem_bitsOf {R p : Nat} : p ∈ bitsOf R ↔ p < 256 ∧ R.testBit p = true := mem_bitsN
theorem bitsOf_length (R : Nat) : (bitsOf R).length ≤ 256 := by
  have := List.length_filter_le R.testBit (List.range 256)
  simpa [bitsOf, bitsN] using this
end Sx
namespace Sx
def valD (k : Nat) : List Nat → Nat
  | [] => 0
  | d :: ds => d + 2 ^ k * valD k ds
def maskD (k : Nat) : Nat → Nat
  | 0 => 0
  | m + 1 => (2 ^ k - 1) + 2 ^ (2 * k) * maskD k m
def pairD : List Nat → List Nat
  | a :: b :: ds => (a + b) :: pairD ds
  | _ => []
theorem and_split (n p q r s : Nat) (hp : p < 2 ^ n) (hr : r < 2 ^ n) : (p + 2 ^ n * q) &&& (r + 2 ^ n * s) = (p &&& r) + 2 ^ n * (q &&& s) := by
  have hpr : p &&& r < 2 ^ n := and_lt hp
  apply Nat.eq_of_testBit_eq
  intro i
  rw [Nat.add_comm p, Nat.add_comm r, Nat.add_comm (p &&& r), Nat.testBit_and, Nat.testBit_two_pow_mul_add _ hp, Nat.testBit_two_pow_mul_add _ hr, Nat.testBit_two_pow_mul_add _ hpr]
  split
  · rw [Nat.testBit_and]
  · rw [Nat.testBit_and]
theorem low_mask (k a b : Nat) (ha : a < 2 ^ k) : (a + 2 ^ k * b) &&& (2 ^ k - 1) = a := by
  rw [Nat.and_two_pow_sub_one_eq_mod, Nat.add_mul_mod_self_left, Nat.mod_eq_of_lt ha]
theorem pow_two_mul (k : Nat) : 2 ^ (2 * k) = 2 ^ k * 2 ^ k := by rw [Nat.two_mul, Nat.pow_add]
theorem pair_lt {k a b : Nat} (ha : a < 2 ^ k) (hb : b < 2 ^ k) : a + 2 ^ k * b < 2 ^ (2 * k) := by
  rw [pow_two_mul]
  have : 2 ^ k * b ≤ 2 ^ k * (2 ^ k - 1) := Nat.mul_le_mul_left _ (by omega)
  have h2 : 2 ^ k * (2 ^ k - 1) + 2 ^ k = 2 ^ k * 2 ^ k := by rw [Nat.mul_sub]; have := Nat.mul_le_mul_left (2 ^ k) (Nat.two_pow_pos k); omega
  omega
theorem mask_lt (k : Nat) : 2 ^ k - 1 < 2 ^ (2 * k) := by
  have h1 := Nat.two_pow_pos k
  have h2 : 2 ^ k ≤ 2 ^ (2 * k) := Nat.pow_le_pow_right (by omega) (by omega)
  omega
theorem val_pair (k a b : Nat) (ds : List Nat) : valD k (a :: b :: ds) = (a + 2 ^ k * b) + 2 ^ (2 * k) * valD k ds := by
  simp only [valD]; rw [pow_two_mul, Nat.mul_add, Nat.mul_assoc]; omega
theorem fields_even (k : Nat) : ∀ (m : Nat) (ds : List Nat), ds.length = 2 * m → (∀ d ∈ ds, d < 2 ^ k) →
    (valD k ds &&& maskD k m) + ((valD k ds / 2 ^ k) &&& maskD k m) = valD (2 * k) (pairD ds)
  | 0, ds, hl, _ => by
    have : ds = [] := List.eq_nil_of_length_eq_zero (by omega)
    subst this; simp [valD, maskD, pairD]
  | m + 1, a :: b :: ds, hl, h => by
    have ha := h a (by simp)
    have hb := h b (by simp)
    have ih := fields_even k m ds (by simp at hl; omega) (fun d hd => h d (by simp [hd]))
    have hp := Nat.two_pow_pos k
    rw [val_pair]
    have e1 : (a + 2 ^ k * b + 2 ^ (2 * k) * valD k ds) / 2 ^ k = b + 2 ^ k * valD k ds := by
      rw [pow_two_mul, Nat.mul_assoc, Nat.add_assoc, ← Nat.mul_add, Nat.add_mul_div_left _ _ hp, Nat.div_eq_of_lt ha, Nat.zero_add]
    rw [e1]
    simp only [maskD, pairD, valD]
    rw [and_split (2 * k) _ _ _ _ (pair_lt ha hb) (mask_lt k), low_mask k a b ha]
    have e2 : b + 2 ^ k * valD k ds = (b + 2 ^ k * (valD k ds % 2 ^ k)) + 2 ^ (2 * k) * (valD k ds / 2 ^ k) := by
      have := Nat.div_add_mod (valD k ds) (2 ^ k)
      rw [pow_two_mul, Nat.mul_assoc, Nat.add_assoc, ← Nat.mul_add, Nat.add_comm (valD k ds % 2 ^ k), this]
    rw [e2, and_split (2 * k) _ _ _ _ (pair_lt hb (Nat.mod_lt _ hp)) (mask_lt k), low_mask k b _ hb, ← ih, Nat.mul_add]
    omega
  | m + 1, [], hl, _ => by simp at hl
  | m + 1, [a], hl, _ => by simp at hl; omega
theorem fields_sum (k : Nat) : ∀ (m : Nat) (ds : List Nat), ds.length = 2 * m → (∀ d ∈ ds, 2 * d < 2 ^ k) →
    ((valD k ds / 2 ^ k + valD k ds) &&& maskD k m) = valD (2 * k) (pairD ds)
  | 0, ds, hl, _ => by
    have : ds = [] := List.eq_nil_of_length_eq_zero (by omega)
    subst this; simp [valD, maskD, pairD]
  | m + 1, a :: b :: ds, hl, h => by
    have ha := h a (by simp)
    have hb := h b (by simp)
    have ih := fields_sum k m ds (by simp at hl; omega) (fun d hd => h d (by simp [hd]))
    have hp := Nat.two_pow_pos k
    have hy : 2 * (valD k ds % 2 ^ k) < 2 ^ k := by
      cases ds with
      | nil => simp [valD]; exact hp
      | cons d ds' =>
        have hd := h d (by simp)
        simp only [valD]
        rw [Nat.add_mul_mod_self_left, Nat.mod_eq_of_lt (by omega)]
        exact hd
    rw [val_pair]
    have e1 : (a + 2 ^ k * b + 2 ^ (2 * k) * valD k ds) / 2 ^ k = b + 2 ^ k * valD k ds := by
      rw [pow_two_mul, Nat.mul_assoc, Nat.add_assoc, ← Nat.mul_add, Nat.add_mul_div_left _ _ hp, Nat.div_eq_of_lt (by omega), Nat.zero_add]
    rw [e1]
    simp only [maskD, pairD, valD]
    have e2 : b + 2 ^ k * valD k ds + (a + 2 ^ k * b + 2 ^ (2 * k) * valD k ds) = ((a + b) + 2 ^ k * (b + valD k ds % 2 ^ k)) + 2 ^ (2 * k) * (valD k ds / 2 ^ k + valD k ds) := by
      have := Nat.div_add_mod (valD k ds) (2 ^ k)
      have h3 : 2 ^ k * valD k ds = 2 ^ (2 * k) * (valD k ds / 2 ^ k) + 2 ^ k * (valD k ds % 2 ^ k) := by
        rw [pow_two_mul, Nat.mul_assoc, ← Nat.mul_add, this]
      rw [h3, Nat.mul_add, Nat.mul_add]; omega
    rw [e2, and_split (2 * k) _ _ _ _ (pair_lt (by omega) (by omega)) (mask_lt k), low_mask k (a + b) _ (by omega), ih]
  | m + 1, [], hl, _ => by simp at hl
  | m + 1, [a], hl, _ => by simp at hl; omega
def sumD (l : List Nat) : Nat := l.foldr (· + ·) 0
theorem sum_pair : ∀ (m : Nat) (ds : List Nat), ds.length = 2 * m → sumD (pairD ds) = sumD ds ∧ (pairD ds).length = m
  | 0, ds, hl => by
    have : ds = [] := List.eq_nil_of_length_eq_zero (by omega)
    subst this; simp [pairD, sumD]
  | m + 1, a :: b :: ds, hl => by
    have ih := sum_pair m ds (by simp at hl; omega)
    simp only [pairD, sumD, List.foldr_cons, List.length_cons]
    have h1 := ih.1
    simp only [sumD] at h1
    exact ⟨by omega, by rw [ih.2]⟩
  | m + 1, [], hl => by simp at hl
  | m + 1, [a], hl => by simp at hl; omega
theorem pair_le (B : Nat) : ∀ (m : Nat) (ds : List Nat), ds.length = 2 * m → (∀ d ∈ ds, d ≤ B) → ∀ d ∈ pairD ds, d ≤ 2 * B
  | 0, ds, hl, _ => by
    have : ds = [] := List.eq_nil_of_length_eq_zero (by omega)
    subst this; simp [pairD]
  | m + 1, a :: b :: ds, hl, h => by
    have ih := pair_le B m ds (by simp at hl; omega) (fun d hd => h d (by simp [hd]))
    have ha := h a (by simp)
    have hb := h b (by simp)
    intro d hd
    simp only [pairD, List.mem_cons] at hd
    rcases hd with rfl | hd
    · omega
    · exact ih d hd
  | m + 1, [], hl, _ => by simp at hl
  | m + 1, [a], hl, _ => by simp at hl; omega
def bitD (x : Nat) : Nat → List Nat
  | 0 => []
  | n + 1 => (x % 2) :: bitD (x / 2) n
theorem bitD_length (n : Nat) : ∀ x, (bitD x n).length = n := by
  induction n with
  | zero => intro x; rfl
  | succ n ih => intro x; simp [bitD, ih]
theorem bitD_le (n : Nat) : ∀ x, ∀ d ∈ bitD x n, d ≤ 1 := by
  induction n with
  | zero => intro x d hd; cases hd
  | succ n ih =>
    intro x d hd
    simp only [bitD, List.mem_cons] at hd
    rcases hd with rfl | hd
    · omega
    · exact ih _ d hd
theorem val_bitD (n : Nat) : ∀ x, x < 2 ^ n → valD 1 (bitD x n) = x := by
  induction n with
  | zero => intro x h; simp at h; subst h; rfl
  | succ n ih =>
    intro x h
    simp only [bitD, valD]
    rw [ih (x / 2) (by rw [Nat.pow_succ] at h; omega)]
    omega
theorem sum_bitD (n : Nat) : ∀ x, sumD (bitD x n) = (bitsN n x).length := by
  induction n with
  | zero => intro x; rfl
  | succ n ih =>
    intro x
    have e : (bitsN (n + 1) x).length = (if x.testBit 0 then 1 else 0) + (bitsN n (x / 2)).length := by
      unfold bitsN
      rw [List.range_succ_eq_map, List.filter_cons, List.filter_map]
      have hc : List.filter (x.testBit ∘ Nat.succ) (List.range n) = List.filter (x / 2).testBit (List.range n) := by
        apply List.filter_congr
        intro i _
        simp only [Function.comp, Nat.succ_eq_add_one, Nat.testBit_succ]
      rw [hc]
      split
      · simp; omega
      · simp
    rw [e, ← ih (x / 2)]
    simp only [bitD, sumD, List.foldr_cons]
    rw [Nat.testBit_zero]
    congr 1
    by_cases h : x % 2 = 1
    · simp [h]
    · have : x % 2 = 0 := by omega
      simp [this]
end Sx
