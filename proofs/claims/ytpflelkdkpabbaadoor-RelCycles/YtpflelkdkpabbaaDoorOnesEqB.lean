/- What math/bits.OnesCount64 reckons: the number of set bits: its end. -/
import Derived.Test.YtpflelkdkpabbaaDoorOnesEq
namespace Go.Proofs.YtpflelkdkpabbaaDoor
open Go.RowKit Sx
theorem cast_mod (u m : Nat) (h : u % 128 = m) : ((u : Nat) : Int) % 128 = ((m : Nat) : Int) := by omega
theorem tail_all (x y z u m : Nat) (h1 : x + x / 256 = y) (h2 : y + y / 65536 = z) (h3 : z + z / 4294967296 = u) (b1 : y < 18446744073709551616) (b2 : z < 18446744073709551616) (b3 : u < 18446744073709551616) (h4 : u % 128 = m) : o6 (o5 (o4 (x : Int))) % 128 = (m : Int) := by
  rw [chain456 x y z u h1 h2 h3 b1 b2 b3]
  exact cast_mod u m h4
theorem tail_eq (ds : List Nat) (hl : ds.length = 8) (h : ∀ d ∈ ds, d ≤ 8) : o6 (o5 (o4 ((valD 8 ds : Nat) : Int))) % 128 = ((sumD ds : Nat) : Int) := by
  match ds, hl with
  | [a, b, c, d, e, f, g, k], _ =>
    have ha := h a (by simp); have hb := h b (by simp); have hc := h c (by simp); have hd := h d (by simp)
    have he := h e (by simp); have hf := h f (by simp); have hg := h g (by simp); have hk := h k (by simp)
    clear h
    have hs : sumD [a, b, c, d, e, f, g, k] = a + b + c + d + e + f + g + k := by simp only [sumD, List.foldr_cons, List.foldr_nil]; omega
    rw [tail_x, hs]
    exact tail_all _ _ _ _ _ (tail4 a b c d e f g k ha hb hc hd he hf hg hk) (tail5 a b c d e f g k ha hb hc hd he hf hg hk) (tail6 a b c d e f g k ha hb hc hd he hf hg hk) (tail_b1 a b c d e f g k ha hb hc hd he hf hg hk) (tail_b2 a b c d e f g k ha hb hc hd he hf hg hk) (tail_b3 a b c d e f g k ha hb hc hd he hf hg hk) (tail_m a b c d e f g k ha hb hc hd he hf hg hk)
theorem bitsN_len64 (x : Nat) : (bitsN 64 x).length ≤ 64 := by
  have := List.length_filter_le x.testBit (List.range 64)
  simpa [bitsN] using this
theorem ones_eq (x : Nat) (hx : x < 18446744073709551616) : bits BinOp.and IntKind.i64 (wrap64 (o6 (o5 (o4 (o3 (o2 (o1 x))))))) 127 = (((bitsN 64 x).length : Nat) : Int) := by
  have l0 := bitD_length 64 x
  obtain ⟨s1, l1⟩ := sum_pair 32 (bitD x 64) (by omega)
  have b1 := pair_le 1 32 (bitD x 64) (by omega) (bitD_le 64 x)
  obtain ⟨s2, l2⟩ := sum_pair 16 _ (show (pairD (bitD x 64)).length = 2 * 16 by omega)
  have b2 := pair_le 2 16 _ (show (pairD (bitD x 64)).length = 2 * 16 by omega) b1
  obtain ⟨s3, l3⟩ := sum_pair 8 _ (show (pairD (pairD (bitD x 64))).length = 2 * 8 by omega)
  have b3 := pair_le 4 8 _ (show (pairD (pairD (bitD x 64))).length = 2 * 8 by omega) b2
  have ht := tail_eq (pairD (pairD (pairD (bitD x 64)))) (by omega) b3
  rw [o1_eq x hx, o2_eq _ (by omega) b1, o3_eq _ (by omega) b2, i64_and127]
  rw [s3, s2, s1, sum_bitD] at ht
  have hb := bitsN_len64 x
  rw [wrap64]
  generalize o6 (o5 (o4 ((valD 8 (pairD (pairD (pairD (bitD x 64)))) : Nat) : Int))) = t at *
  omega
end Go.Proofs.YtpflelkdkpabbaaDoor
