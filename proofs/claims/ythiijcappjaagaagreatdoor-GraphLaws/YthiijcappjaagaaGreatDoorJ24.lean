/- What math/bits.OnesCount64 reckons: the number of set bits. -/
import Derived.Test.YthiijcappjaagaaGreatDoorJ09
import Derived.Test.YthiijcappjaagaaGreatDoorJ08
import Derived.Laws.Bits64b
import Derived.Laws.Bits128
namespace Go.Proofs.YthiijcappjaagaaGreatDoor
open Go.RowKit Sx
abbrev o1 (x : Int) : Int := IntKind.u64.wrap (bits BinOp.and IntKind.u64 (x / 2) 6148914691236517205 + bits BinOp.and IntKind.u64 x 6148914691236517205)
abbrev o2 (x : Int) : Int := IntKind.u64.wrap (bits BinOp.and IntKind.u64 (x / 4) 3689348814741910323 + bits BinOp.and IntKind.u64 x 3689348814741910323)
abbrev o3 (x : Int) : Int := bits BinOp.and IntKind.u64 (IntKind.u64.wrap (x / 16 + x)) 1085102592571150095
abbrev o4 (x : Int) : Int := IntKind.u64.wrap (x + x / 256)
abbrev o5 (x : Int) : Int := IntKind.u64.wrap (x + x / 65536)
abbrev o6 (x : Int) : Int := IntKind.u64.wrap (x + x / 4294967296)
theorem mask0 : maskD 1 32 = 6148914691236517205 := by decide
theorem mask1 : maskD 2 16 = 3689348814741910323 := by decide
theorem mask2 : maskD 4 8 = 1085102592571150095 := by decide
theorem o1_eq (x : Nat) (hx : x < 18446744073709551616) : o1 x = ((valD 2 (pairD (bitD x 64)) : Nat) : Int) := by
  have h := fields_even 1 32 (bitD x 64) (by rw [bitD_length]) (fun d hd => by have := bitD_le 64 x d hd; omega)
  rw [val_bitD 64 x hx, mask0] at h
  have hle : x &&& 6148914691236517205 ≤ 6148914691236517205 := Nat.and_le_right
  have hle2 : x / 2 ^ 1 &&& 6148914691236517205 ≤ 6148914691236517205 := Nat.and_le_right
  have e1 := bits_and_u64_nat (x / 2) 6148914691236517205 (by omega) (by omega)
  have e2 := bits_and_u64_nat x 6148914691236517205 hx (by omega)
  have e3 : ((x : Int) / 2) = ((x / 2 : Nat) : Int) := by omega
  unfold o1
  rw [e3, show (6148914691236517205 : Int) = ((6148914691236517205 : Nat) : Int) from rfl, e1, e2, IntKind.wrap_u64]
  rw [show x / 2 ^ 1 = x / 2 from rfl] at h hle2
  rw [← h]
  omega
theorem val_lt (k : Nat) : ∀ ds : List Nat, (∀ d ∈ ds, d < 2 ^ k) → valD k ds < 2 ^ (k * ds.length)
  | [], _ => by simp [valD]
  | d :: ds, h => by
    have ih := val_lt k ds (fun d hd => h d (by simp [hd]))
    have hd := h d (by simp)
    simp only [valD, List.length_cons]
    rw [Nat.mul_add, Nat.mul_one, Nat.pow_add, Nat.mul_comm (2 ^ (k * ds.length))]
    have : 2 ^ k * valD k ds + 2 ^ k ≤ 2 ^ k * 2 ^ (k * ds.length) := by
      rw [← Nat.mul_succ]; exact Nat.mul_le_mul_left _ ih
    omega
theorem o2_eq (ds : List Nat) (hl : ds.length = 32) (h : ∀ d ∈ ds, d ≤ 2) : o2 ((valD 2 ds : Nat) : Int) = ((valD 4 (pairD ds) : Nat) : Int) := by
  have hlt := val_lt 2 ds (fun d hd => by have := h d hd; omega)
  rw [hl] at hlt
  have hx : valD 2 ds < 18446744073709551616 := hlt
  have h := fields_even 2 16 ds (by omega) (fun d hd => by have := h d hd; omega)
  rw [mask1] at h
  generalize valD 2 ds = x at *
  have hle : x &&& 3689348814741910323 ≤ 3689348814741910323 := Nat.and_le_right
  have hle2 : x / 2 ^ 2 &&& 3689348814741910323 ≤ 3689348814741910323 := Nat.and_le_right
  have e1 := bits_and_u64_nat (x / 4) 3689348814741910323 (by omega) (by omega)
  have e2 := bits_and_u64_nat x 3689348814741910323 hx (by omega)
  have e3 : ((x : Int) / 4) = ((x / 4 : Nat) : Int) := by omega
  unfold o2
  rw [e3, show (3689348814741910323 : Int) = ((3689348814741910323 : Nat) : Int) from rfl, e1, e2, IntKind.wrap_u64]
  rw [show x / 2 ^ 2 = x / 4 from rfl] at h hle2
  rw [show (2 * 2 : Nat) = 4 from rfl] at h
  rw [← h]
  omega
theorem o3_eq (ds : List Nat) (hl : ds.length = 16) (h : ∀ d ∈ ds, d ≤ 4) : o3 ((valD 4 ds : Nat) : Int) = ((valD 8 (pairD ds) : Nat) : Int) := by
  have hlt := val_lt 4 ds (fun d hd => by have := h d hd; omega)
  rw [hl] at hlt
  have hx : valD 4 ds < 18446744073709551616 := hlt
  have hx2 : valD 4 ds < 16140901064495857664 := by
    have e : ∃ t d, ds = t ++ [d] ∧ t.length = 15 := by
      refine ⟨ds.take 15, ds.getD 15 0, ?_, by simp [hl]⟩
      apply List.ext_getElem?
      intro i
      by_cases hi : i < 15
      · rw [List.getElem?_append_left (by simp [hl]; omega), List.getElem?_take_of_lt hi]
      · by_cases hi2 : i = 15
        · subst hi2
          rw [List.getElem?_append_right (by simp [hl])]
          simp [hl, List.getD]
        · rw [List.getElem?_eq_none (by omega), List.getElem?_eq_none (by simp [hl]; omega)]
    obtain ⟨t, d, rfl, ht⟩ := e
    have hv : ∀ (t : List Nat) (d : Nat), valD 4 (t ++ [d]) = valD 4 t + 2 ^ (4 * t.length) * d := by
      intro t d
      induction t with
      | nil => simp [valD]
      | cons a t ih =>
        simp only [List.cons_append, valD, ih, List.length_cons]
        rw [Nat.mul_add (2 ^ 4), ← Nat.mul_assoc, ← Nat.pow_add, Nat.add_assoc, show 4 + 4 * t.length = 4 * (t.length + 1) from by omega]
    have hd := h d (by simp)
    have hlt2 := val_lt 4 t (fun d hd => by have := h d (by simp [hd]); omega)
    rw [hv, ht]
    rw [ht] at hlt2
    have : valD 4 t < 1152921504606846976 := hlt2
    have e2 : (2 : Nat) ^ (4 * 15) = 1152921504606846976 := by decide
    rw [e2]
    omega
  have h := fields_sum 4 8 ds (by omega) (fun d hd => by have := h d hd; omega)
  rw [mask2] at h
  generalize valD 4 ds = x at *
  have e1 := bits_and_u64_nat (x / 16 + x) 1085102592571150095 (by omega) (by omega)
  have e3 : (x : Int) / 16 + (x : Int) = ((x / 16 + x : Nat) : Int) := by omega
  unfold o3
  rw [e3, IntKind.wrap_u64, show (((x / 16 + x : Nat) : Int)) % 18446744073709551616 = ((x / 16 + x : Nat) : Int) from by omega, show (1085102592571150095 : Int) = ((1085102592571150095 : Nat) : Int) from rfl, e1]
  rw [show x / 2 ^ 4 = x / 16 from rfl, show (2 * 4 : Nat) = 8 from rfl] at h
  rw [h]
theorem o4_nat (x : Nat) (h : x + x / 256 < 18446744073709551616) : o4 (x : Int) = ((x + x / 256 : Nat) : Int) := by simp only [o4, IntKind.wrap_u64]; omega
theorem o5_nat (x : Nat) (h : x + x / 65536 < 18446744073709551616) : o5 (x : Int) = ((x + x / 65536 : Nat) : Int) := by simp only [o5, IntKind.wrap_u64]; omega
theorem o6_nat (x : Nat) (h : x + x / 4294967296 < 18446744073709551616) : o6 (x : Int) = ((x + x / 4294967296 : Nat) : Int) := by simp only [o6, IntKind.wrap_u64]; omega
theorem div_add (n q r : Nat) (h : r < n) : (r + n * q) / n = q := by rw [Nat.add_mul_div_left _ _ (by omega), Nat.div_eq_of_lt h, Nat.zero_add]
theorem tail4 (a b c d e f g k : Nat) (ha : a ≤ 8) (_hb : b ≤ 8) (_hc : c ≤ 8) (_hd : d ≤ 8) (_he : e ≤ 8) (_hf : f ≤ 8) (_hg : g ≤ 8) (_hk : k ≤ 8) : ((a) + 256 * (b) + 65536 * (c) + 16777216 * (d) + 4294967296 * (e) + 1099511627776 * (f) + 281474976710656 * (g) + 72057594037927936 * (k)) + ((a) + 256 * (b) + 65536 * (c) + 16777216 * (d) + 4294967296 * (e) + 1099511627776 * (f) + 281474976710656 * (g) + 72057594037927936 * (k)) / 256 = (a + b) + 256 * (b + c) + 65536 * (c + d) + 16777216 * (d + e) + 4294967296 * (e + f) + 1099511627776 * (f + g) + 281474976710656 * (g + k) + 72057594037927936 * (k) := by
  have q : ((a) + 256 * (b) + 65536 * (c) + 16777216 * (d) + 4294967296 * (e) + 1099511627776 * (f) + 281474976710656 * (g) + 72057594037927936 * (k)) / 256 = (b) + 256 * (c) + 65536 * (d) + 16777216 * (e) + 4294967296 * (f) + 1099511627776 * (g) + 281474976710656 * (k) := by
    rw [show (a) + 256 * (b) + 65536 * (c) + 16777216 * (d) + 4294967296 * (e) + 1099511627776 * (f) + 281474976710656 * (g) + 72057594037927936 * (k) = a + 256 * ((b) + 256 * (c) + 65536 * (d) + 16777216 * (e) + 4294967296 * (f) + 1099511627776 * (g) + 281474976710656 * (k)) from by omega]
    exact div_add 256 _ a (by omega)
  rw [q]; omega
theorem tail5 (a b c d e f g k : Nat) (ha : a ≤ 8) (hb : b ≤ 8) (hc : c ≤ 8) (_hd : d ≤ 8) (_he : e ≤ 8) (_hf : f ≤ 8) (_hg : g ≤ 8) (_hk : k ≤ 8) : ((a + b) + 256 * (b + c) + 65536 * (c + d) + 16777216 * (d + e) + 4294967296 * (e + f) + 1099511627776 * (f + g) + 281474976710656 * (g + k) + 72057594037927936 * (k)) + ((a + b) + 256 * (b + c) + 65536 * (c + d) + 16777216 * (d + e) + 4294967296 * (e + f) + 1099511627776 * (f + g) + 281474976710656 * (g + k) + 72057594037927936 * (k)) / 65536 = (a + b + c + d) + 256 * (b + c + d + e) + 65536 * (c + d + e + f) + 16777216 * (d + e + f + g) + 4294967296 * (e + f + g + k) + 1099511627776 * (f + g + k) + 281474976710656 * (g + k) + 72057594037927936 * (k) := by
  have q : ((a + b) + 256 * (b + c) + 65536 * (c + d) + 16777216 * (d + e) + 4294967296 * (e + f) + 1099511627776 * (f + g) + 281474976710656 * (g + k) + 72057594037927936 * (k)) / 65536 = (c + d) + 256 * (d + e) + 65536 * (e + f) + 16777216 * (f + g) + 4294967296 * (g + k) + 1099511627776 * (k) := by
    rw [show (a + b) + 256 * (b + c) + 65536 * (c + d) + 16777216 * (d + e) + 4294967296 * (e + f) + 1099511627776 * (f + g) + 281474976710656 * (g + k) + 72057594037927936 * (k) = ((a + b) + 256 * (b + c)) + 65536 * ((c + d) + 256 * (d + e) + 65536 * (e + f) + 16777216 * (f + g) + 4294967296 * (g + k) + 1099511627776 * (k)) from by omega]
    exact div_add 65536 _ _ (by omega)
  rw [q]; omega
theorem tail6 (a b c d e f g k : Nat) (ha : a ≤ 8) (hb : b ≤ 8) (hc : c ≤ 8) (hd : d ≤ 8) (he : e ≤ 8) (hf : f ≤ 8) (hg : g ≤ 8) (_hk : k ≤ 8) : ((a + b + c + d) + 256 * (b + c + d + e) + 65536 * (c + d + e + f) + 16777216 * (d + e + f + g) + 4294967296 * (e + f + g + k) + 1099511627776 * (f + g + k) + 281474976710656 * (g + k) + 72057594037927936 * (k)) + ((a + b + c + d) + 256 * (b + c + d + e) + 65536 * (c + d + e + f) + 16777216 * (d + e + f + g) + 4294967296 * (e + f + g + k) + 1099511627776 * (f + g + k) + 281474976710656 * (g + k) + 72057594037927936 * (k)) / 4294967296 = (a + b + c + d + e + f + g + k) + 256 * (b + c + d + e + f + g + k) + 65536 * (c + d + e + f + g + k) + 16777216 * (d + e + f + g + k) + 4294967296 * (e + f + g + k) + 1099511627776 * (f + g + k) + 281474976710656 * (g + k) + 72057594037927936 * (k) := by
  have q : ((a + b + c + d) + 256 * (b + c + d + e) + 65536 * (c + d + e + f) + 16777216 * (d + e + f + g) + 4294967296 * (e + f + g + k) + 1099511627776 * (f + g + k) + 281474976710656 * (g + k) + 72057594037927936 * (k)) / 4294967296 = (e + f + g + k) + 256 * (f + g + k) + 65536 * (g + k) + 16777216 * (k) := by
    rw [show (a + b + c + d) + 256 * (b + c + d + e) + 65536 * (c + d + e + f) + 16777216 * (d + e + f + g) + 4294967296 * (e + f + g + k) + 1099511627776 * (f + g + k) + 281474976710656 * (g + k) + 72057594037927936 * (k) = ((a + b + c + d) + 256 * (b + c + d + e) + 65536 * (c + d + e + f) + 16777216 * (d + e + f + g)) + 4294967296 * ((e + f + g + k) + 256 * (f + g + k) + 65536 * (g + k) + 16777216 * (k)) from by omega]
    exact div_add 4294967296 _ _ (by omega)
  rw [q]; omega
theorem chain456 (x y z u : Nat) (h1 : x + x / 256 = y) (h2 : y + y / 65536 = z) (h3 : z + z / 4294967296 = u) (b1 : y < 18446744073709551616) (b2 : z < 18446744073709551616) (b3 : u < 18446744073709551616) : o6 (o5 (o4 (x : Int))) = (u : Int) := by
  rw [o4_nat x (by omega), h1, o5_nat y (by omega), h2, o6_nat z (by omega), h3]
theorem tail_b1 (a b c d e f g k : Nat) (ha : a ≤ 8) (hb : b ≤ 8) (hc : c ≤ 8) (hd : d ≤ 8) (he : e ≤ 8) (hf : f ≤ 8) (hg : g ≤ 8) (hk : k ≤ 8) : (a + b) + 256 * (b + c) + 65536 * (c + d) + 16777216 * (d + e) + 4294967296 * (e + f) + 1099511627776 * (f + g) + 281474976710656 * (g + k) + 72057594037927936 * (k) < 18446744073709551616 := by omega
theorem tail_b2 (a b c d e f g k : Nat) (ha : a ≤ 8) (hb : b ≤ 8) (hc : c ≤ 8) (hd : d ≤ 8) (he : e ≤ 8) (hf : f ≤ 8) (hg : g ≤ 8) (hk : k ≤ 8) : (a + b + c + d) + 256 * (b + c + d + e) + 65536 * (c + d + e + f) + 16777216 * (d + e + f + g) + 4294967296 * (e + f + g + k) + 1099511627776 * (f + g + k) + 281474976710656 * (g + k) + 72057594037927936 * (k) < 18446744073709551616 := by omega
theorem tail_b3 (a b c d e f g k : Nat) (ha : a ≤ 8) (hb : b ≤ 8) (hc : c ≤ 8) (hd : d ≤ 8) (he : e ≤ 8) (hf : f ≤ 8) (hg : g ≤ 8) (hk : k ≤ 8) : (a + b + c + d + e + f + g + k) + 256 * (b + c + d + e + f + g + k) + 65536 * (c + d + e + f + g + k) + 16777216 * (d + e + f + g + k) + 4294967296 * (e + f + g + k) + 1099511627776 * (f + g + k) + 281474976710656 * (g + k) + 72057594037927936 * (k) < 18446744073709551616 := by omega
theorem tail_m (a b c d e f g k : Nat) (ha : a ≤ 8) (hb : b ≤ 8) (hc : c ≤ 8) (hd : d ≤ 8) (he : e ≤ 8) (hf : f ≤ 8) (hg : g ≤ 8) (hk : k ≤ 8) : ((a + b + c + d + e + f + g + k) + 256 * (b + c + d + e + f + g + k) + 65536 * (c + d + e + f + g + k) + 16777216 * (d + e + f + g + k) + 4294967296 * (e + f + g + k) + 1099511627776 * (f + g + k) + 281474976710656 * (g + k) + 72057594037927936 * (k)) % 128 = a + b + c + d + e + f + g + k := by omega
theorem tail_x (a b c d e f g k : Nat) : valD 8 [a, b, c, d, e, f, g, k] = (a) + 256 * (b) + 65536 * (c) + 16777216 * (d) + 4294967296 * (e) + 1099511627776 * (f) + 281474976710656 * (g) + 72057594037927936 * (k) := by simp only [valD, Nat.reducePow]; omega
end Go.Proofs.YthiijcappjaagaaGreatDoor
namespace Go.Proofs.YthiijcappjaagaaGreatDoor
open Go.RowKit Sx
theorem cast_mod (u m : Nat) (h : u % 128 = m) : ((u : Nat) : Int) % 128 = ((m : Nat) : Int) := by omega
theorem tail_all (x y z u m : Nat) (h1 : x + x / 256 = y) (h2 : y + y / 65536 = z) (h3 : z + z / 4294967296 = u) (b1 : y < 18446744073709551616) (b2 : z < 18446744073709551616) (b3 : u < 18446744073709551616) (h4 : u % 128 = m) : o6 (o5 (o4 (x : Int))) % 128 = (m : Int) := by
  rw [chain456 x y z u h1 h2 h3 b1 b2 b3]
  exact cast_mod u m h4
theorem tail_eq (ds : List Nat) (hl : ds.length = 8) (h : ∀ d ∈ ds, d ≤ 8) : o6 (o5 (o4 ((valD 8 ds : Nat) : Int))) % 128 = ((sumD ds : Nat) : Int) := by
  match ds, hl with
  | [a, b, c, d, e, f, g, k], _ =>
    have ha := h a (by simp); have hb := h b (by simp); have hc := h c (by simp); have hd := h d (by simp)
    have he := h e (by simp); have hf := h f (by simp); have hg := h g (by simp); have hk := h k (by simp)
    clear h
    have hs : sumD [a, b, c, d, e, f, g, k] = a + b + c + d + e + f + g + k := by simp only [sumD, List.foldr_cons, List.foldr_nil]; omega
    rw [tail_x, hs]
    exact tail_all _ _ _ _ _ (tail4 a b c d e f g k ha hb hc hd he hf hg hk) (tail5 a b c d e f g k ha hb hc hd he hf hg hk) (tail6 a b c d e f g k ha hb hc hd he hf hg hk) (tail_b1 a b c d e f g k ha hb hc hd he hf hg hk) (tail_b2 a b c d e f g k ha hb hc hd he hf hg hk) (tail_b3 a b c d e f g k ha hb hc hd he hf hg hk) (tail_m a b c d e f g k ha hb hc hd he hf hg hk)
theorem bitsN_len64 (x : Nat) : (bitsN 64 x).length ≤ 64 := by
  have := List.length_filter_le x.testBit (List.range 64)
  simpa [bitsN] using this
theorem ones_eq (x : Nat) (hx : x < 18446744073709551616) : bits BinOp.and IntKind.i64 (wrap64 (o6 (o5 (o4 (o3 (o2 (o1 x))))))) 127 = (((bitsN 64 x).length : Nat) : Int) := by
  have l0 := bitD_length 64 x
  obtain ⟨s1, l1⟩ := sum_pair 32 (bitD x 64) (by omega)
  have b1 := pair_le 1 32 (bitD x 64) (by omega) (bitD_le 64 x)
  obtain ⟨s2, l2⟩ := sum_pair 16 _ (show (pairD (bitD x 64)).length = 2 * 16 by omega)
  have b2 := pair_le 2 16 _ (show (pairD (bitD x 64)).length = 2 * 16 by omega) b1
  obtain ⟨s3, l3⟩ := sum_pair 8 _ (show (pairD (pairD (bitD x 64))).length = 2 * 8 by omega)
  have b3 := pair_le 4 8 _ (show (pairD (pairD (bitD x 64))).length = 2 * 8 by omega) b2
  have ht := tail_eq (pairD (pairD (pairD (bitD x 64)))) (by omega) b3
  rw [o1_eq x hx, o2_eq _ (by omega) b1, o3_eq _ (by omega) b2, i64_and127]
  rw [s3, s2, s1, sum_bitD] at ht
  have hb := bitsN_len64 x
  rw [wrap64]
  generalize o6 (o5 (o4 ((valD 8 (pairD (pairD (pairD (bitD x 64)))) : Nat) : Int))) = t at *
  omega
end Go.Proofs.YthiijcappjaagaaGreatDoor
namespace Go.Proofs.YthiijcappjaagaaGreatDoor
open Go.RowKit Sx
set_option maxRecDepth 100000 in
set_option maxHeartbeats 400000 in
theorem ones_calls (x : Nat) (hx : Hid (x < 2 ^ 64)) (w : World) :
    Calls Tryz.prog 123 #[.int .u64 x] w fun e w' => e = .returned (.int .i64 (bitsN 64 x).length) ∧ w = w' := by
  have HE : Hid (_ = _) := ones_eq x hx
  go_enter Tryz.func123, Tryz.ntmps123
  go_wp2
  go_ret
  exact ⟨congrArg (fun z => Ending.returned (.int .i64 z)) HE.out, rfl⟩
def cntW (R k : Nat) : Nat := ((List.range k).map (fun j => (bitsN 64 (wd R j)).length)).foldl (· + ·) 0
theorem cntW_succ (R k : Nat) : cntW R (k + 1) = cntW R k + (bitsN 64 (wd R k)).length := by simp [cntW, List.range_succ]
theorem cntW_four (R : Nat) : cntW R 4 = (bitsOf R).length := by
  rw [bitsOf_words]
  simp [cntW, List.range, List.range.loop, wpts]
  omega
theorem bitsN_le (x : Nat) : (bitsN 64 x).length ≤ 64 := by
  have := List.length_filter_le x.testBit (List.range 64)
  simpa [bitsN] using this
set_option maxHeartbeats 1000000 in
theorem count_calls (R : Nat) (w : World) :
    Calls Tryz.prog 112 #[rv R] w fun e w' => e = .returned (.int .i64 (bitsOf R).length) ∧ Below w.heap.size w w' := by
  have H4 : Hid (_ = _) := cntW_four R
  rw [← H4.out]
  go_enter Tryz.func112, Tryz.ntmps112
  go_wp2_with fail
  go_loopw [3, 7] (fun n i wr => ∃ k : Nat, k ≤ 4 ∧ i = .int .i64 k ∧ n = .int .i64 ((cntW R k : Nat) : Int) ∧ cntW R k ≤ 64 * k ∧ Below w.heap.size w wr) (fun _ i _ => 4 - (intOf i).toNat)
  case atStart => exact ⟨0, by omega, rfl, rfl, by simp [cntW], (Below.refl _ w).alloc (Nat.le_refl _) _⟩
  case round =>
    obtain ⟨k, hk, rfl, rfl, hc, hB⟩ := hrel
    by_cases hlt : k < 4
    · have hidx := index_row R k hlt
      have HS : Hid (_ = _) := cntW_succ R k
      have hb := bitsN_le (wd R k)
      generalize cntW R k = C at *
      go_wp2_with fail
      refine (ones_calls (wd R k) (wd_lt R k) _).mono ?_
      rintro e w1 ⟨rfl, rfl⟩
      generalize (bitsN 64 (wd R k)).length = D at *
      go_wp2_with fail
      refine ⟨⟨k + 1, by omega, by go_num, by rw [HS.out]; go_num, by rw [HS.out]; omega, hB⟩, by simp [intOf]; omega⟩
    · obtain rfl : k = 4 := by omega
      go_wp2_with fail
      go_ret
      exact ⟨rfl, hB⟩
def sizeK (L : List Nat) (k : Nat) : Nat := ((List.range k).map (fun p => (bitsOf (gr L p)).length)).foldl (· + ·) 0
theorem sizeK_succ (L : List Nat) (k : Nat) : sizeK L (k + 1) = sizeK L k + (bitsOf (gr L k)).length := by simp [sizeK, List.range_succ]
def sizeL (L : List Nat) : Nat := sizeK L L.length
set_option maxHeartbeats 1000000 in
theorem Size_calls (b c : Nat) (L : List Nat) (w : World) (h : IsRel w b c L) :
    Calls Tryz.prog 85 #[pv b] w fun e w' => e = .returned (.int .i64 (sizeL L)) ∧ Below w.heap.size w w' := by
  have hl := h.len
  have hh := h.hcell
  go_enter Tryz.func85, Tryz.ntmps85
  go_wp2_with fail
  clear hh
  go_loopw [3, 11] (fun n i wr => ∃ k : Nat, k ≤ L.length ∧ i = .int .i64 k ∧ n = .int .i64 ((sizeK L k : Nat) : Int) ∧ sizeK L k ≤ 256 * k ∧ Below w.heap.size w wr) (fun _ i _ => L.length - (intOf i).toNat)
  case atStart => exact ⟨0, by omega, rfl, rfl, by simp [sizeK], Below.refl _ w⟩
  case round =>
    obtain ⟨k, hk, rfl, rfl, hc, hB⟩ := hrel
    by_cases hlt : k < L.length
    · have hI := h.below hB
      obtain ⟨_, ⟨x0, x1, x2, x3⟩, _, q1, q2⟩ := hI.slots (gr_of hlt)
      have HS : Hid (_ = _) := sizeK_succ L k
      have hb := bitsOf_length (gr L k)
      generalize sizeK L k = C at *
      go_wp2_with fail
      refine (count_calls (gr L k) _).mono ?_
      rintro e w1 ⟨rfl, hB1⟩
      generalize (bitsOf (gr L k)).length = D at *
      go_wp2_with fail
      refine ⟨⟨k + 1, by omega, by go_num, by rw [HS.out]; go_num, by rw [HS.out]; omega, ?_⟩, by simp [intOf]; omega⟩
      exact below_step (hB.alloc hB.size _) (by have := hB.size; simp; omega) hB1
    · obtain rfl : k = L.length := by omega
      go_wp2_with fail
      go_ret
      exact ⟨rfl, hB⟩
end Go.Proofs.YthiijcappjaagaaGreatDoor
