/- The contract of the reference's number. -/
import Derived.Test.YtkgppagpjbkhmaaDoorLxRef3
import Derived.Deep.DeepCutAuto
namespace Go.Proofs.YtkgppagpjbkhmaaDoor
open Go.RowKit Go.Shelf

theorem Below.row {n : Nat} {w W : World} (h : Below n w W) {g : Nat} (hg : n ≤ g) (ds : Array Value) : Below n w (W.setRow g ds) :=
  ⟨h.os, h.tape, h.output, by rw [World.setRow]; simpa using h.size, fun k hk => (setRow_other W g k ds (by omega)).trans (h.block k hk)⟩
/-- Where number stands in its digits. -/
def DigW (s : ByteArray) (J P l K base n v : Nat) (ok : Bool) : Prop := Bnd s (J + n) (P + n) l (K + n) ∧ v < 18446744073709551616 ∧ ∃ g, s.size - (P + n) ≤ g ∧ digA (dropB s P) base = digK (dropB s P) base g n v ok
theorem DigW.start {s : ByteArray} {J P l K base : Nat} (h : Bnd s J P l K) : DigW s J P l K base 0 0 true := ⟨h, by omega, (dropB s P).size, by rw [dropB_size]; omega, rfl⟩
theorem DigW.more {s : ByteArray} {J P l K base n v : Nat} {ok : Bool} (h : DigW s J P l K base n v ok) (hp : P + n < s.size) (hb : base ≤ 16) {d : Nat} (hd : digitV (Utf8.decode s (P + n)).1 = d) (hl : d < base) : DigW s J P l K base (n + 1) ((v * base + d) % 18446744073709551616) (ok && decide (v ≤ (18446744073709551615 - d) / base)) := by
  obtain ⟨h1, h2, g, h3, h4⟩ := h
  obtain ⟨g, rfl⟩ : ∃ g', g = g' + 1 := ⟨g - 1, by omega⟩
  have hlow := digV_low (Utf8.decode s (P + n)).1 (by omega)
  have hlo := dec_low s (P + n) hlow.1
  refine ⟨?_, Nat.mod_lt _ (by decide), g, by omega, ?_⟩
  · have := h1.adv (m := 1) (q := P + n + 1) ⟨hp, hlow.2, by rw [hlo.1]; rfl⟩
    exact this
  · rw [h4]
    conv => lhs; unfold digK
    rw [dropB_size, if_pos (by omega), dec_drop, hd, if_neg (by omega), hlo.1]
theorem DigW.stop {s : ByteArray} {J P l K base n v : Nat} {ok : Bool} (h : DigW s J P l K base n v ok) (hs : P + n < s.size → base ≤ digitV (Utf8.decode s (P + n)).1) : digA (dropB s P) base = (n, v, ok) := by
  obtain ⟨h1, h2, g, h3, h4⟩ := h
  rw [h4]
  have hle := h1.1
  by_cases hp : P + n < s.size
  · obtain ⟨g, rfl⟩ : ∃ g', g = g' + 1 := ⟨g - 1, by omega⟩
    unfold digK
    rw [dropB_size, if_pos (by omega), dec_drop, if_pos (hs hp)]
  · rw [digK_end (by rw [dropB_size]; omega), dropB_size, show s.size - P = n by omega]
theorem rune_six {s : ByteArray} {j p l k : Nat} (h : Bnd s j p l k) : ∃ r n d, (runesA s)[j]? = some ⟨r, p, n, l, k⟩ ∧ sixN ⟨r, p, n, l, k⟩ = d ∧ d ≤ 16 ∧ (d < 16 → p < s.size) ∧ (p < s.size → digitV (Utf8.decode s p).1 = d) ∧ letterRB ⟨r, p, n, l, k⟩ = letterB (Lib.decodeGo (dropB s p)).1 ∧ (10 ≤ d → digitRB ⟨r, p, n, l, k⟩ = false) := by
  by_cases hp : p < s.size
  · have h6 := six_same s p l k
    refine ⟨_, _, _, rune_x h hp, h6, digitV_le _, fun _ => hp, fun _ => rfl, ?_, ?_⟩
    · rw [letter_rune]
      unfold Lib.decodeGo
      rw [dropB_size, if_neg (by omega), dec_drop, Nat.add_zero]
    · intro hd
      rw [digit_rune]
      refine digitB_false ?_
      intro e
      unfold digitV at hd
      rw [if_pos e] at hd
      omega
  · refine ⟨_, _, 16, rune_end h hp, rfl, Nat.le_refl _, fun e => absurd e (by omega), fun e => absurd e hp, ?_, fun _ => rfl⟩
    unfold Lib.decodeGo
    rw [dropB_size, if_pos (by omega)]
    rfl
theorem hex_iff {s : ByteArray} {p : Nat} (hp : p < s.size) : hexB (dropB s p) = true ↔ (byteAt s p = 48 ∧ p + 1 < s.size ∧ (byteAt s (p + 1) = 120 ∨ byteAt s (p + 1) = 88)) := by
  unfold hexB
  have e1 : Lib.hasPrefix (dropB s p).data.toList [48, 120] = ([48, 120] : List UInt8).isPrefixOf (s.data.toList.drop p) := by rw [drop_list]; rfl
  have e2 : Lib.hasPrefix (dropB s p).data.toList [48, 88] = ([48, 88] : List UInt8).isPrefixOf (s.data.toList.drop p) := by rw [drop_list]; rfl
  rw [e1, e2, Bool.or_eq_true, pre_iff s _ p (by omega), pre_iff s _ p (by omega)]
  have l1 : ([48, 120] : List UInt8).length = 2 := rfl
  have l2 : ([48, 88] : List UInt8).length = 2 := rfl
  rw [l1, l2]
  constructor
  · rintro (⟨h1, h2⟩ | ⟨h1, h2⟩)
    · exact ⟨h2 0 48 rfl, by omega, Or.inl (h2 1 120 rfl)⟩
    · exact ⟨h2 0 48 rfl, by omega, Or.inr (h2 1 88 rfl)⟩
  · rintro ⟨h1, h2, h3 | h3⟩
    · refine Or.inl ⟨by omega, ?_⟩
      intro j b hb
      match j, hb with
      | 0, hb => rw [← Option.some.inj hb]; exact h1
      | 1, hb => rw [← Option.some.inj hb]; exact h3
      | j + 2, hb => exact absurd hb (by simp)
    · refine Or.inr ⟨by omega, ?_⟩
      intro j b hb
      match j, hb with
      | 0, hb => rw [← Option.some.inj hb]; exact h1
      | 1, hb => rw [← Option.some.inj hb]; exact h3
      | j + 2, hb => exact absurd hb (by simp)
theorem numK_of {s : ByteArray} {p l k a base n v : Nat} {ok : Bool} (h : digA (dropB s (p + a)) base = (n, v, ok)) (hn : n ≠ 0) (hle : p + (a + n) ≤ s.size) : numK (dropB s p) l k a base = if ok = false then ⟨noTok, ⟨20, l, k⟩, dropB s p, k⟩ else if letterB (Lib.decodeGo (dropB s (p + a + n))).1 = true then ⟨noTok, ⟨20, l, k + a + n⟩, dropB s p, k⟩ else ⟨⟨2, s.extract p (p + (a + n)), v, l, k⟩, noFlt, dropB s (p + (a + n)), k + (a + n)⟩ := by
  unfold numK
  rw [drop_drop, h]
  unfold numG
  simp only []
  rw [if_neg hn, drop_drop, cut_cut s p _ hle, Nat.add_zero, show p + (a + n) = p + a + n by omega, show k + (a + n) = k + a + n by omega]
/-- What number answers. -/
def NumAns (s : ByteArray) (j p l k : Nat) (r : TR) (e : Ending) : Prop :=
  (r.flt.code ≠ 0 ∧ ∃ jn : Nat, e = .returned (.tuple #[.int .u64 0, .int .i64 ((jn : Nat) : Int), .agg (fltC r.flt)])) ∨
  (∃ n v, r = ⟨⟨2, s.extract p (p + n), v, l, k⟩, noFlt, dropB s (p + n), k + n⟩ ∧ 0 < n ∧ Bnd s (j + n) (p + n) l (k + n) ∧ e = .returned (.tuple #[.int .u64 ((v : Nat) : Int), .int .i64 (((j + n : Nat) : Nat) : Int), .agg (fltC noFlt)]))
theorem results_ttc {fn : Func} {p q u : Tmp} {ty : TypeId} (h : fn.results = #[.tmp p, .tmp q, .cell u ty]) (tmps : Array Value) (P : Program) (w : World) :
    (results fn tmps).run P w = ((asAddr (tmps.getD u undef)).run P w).andThen fun a w₁ => ((loadVar ty a).run P w₁).andThen fun v w₂ => .ok (.tuple #[tmps.getD p undef, tmps.getD q undef, v]) w₂ := by
  simp only [results, h]
  simp [Sem.run_bind, Result.andThen]
theorem ret_num {tmps : Array Value} {w : World} {g : Nat} (va vb : Value) (h4 : tmps.getD 4 undef = va) (h5 : tmps.getD 5 undef = vb) (h6 : tmps.getD 6 undef = pv g) (f : Flt) (hg : Blk w g 38 (fltC f)) :
    (results Tryd.f26 tmps).run Tryd.prog w = .ok (.tuple #[va, vb, .agg (fltC f)]) w := by
  rw [results_ttc (p := 4) (q := 5) (u := 6) (ty := 38) rfl, h4, h5, h6]
  have h1 := run_loadVar_row (P := Tryd.prog) w g 38 38 (fltC f) (0, 0) _ hg Tryd.underlying38 rfl (by kernel_rfl)
  simp [asAddr, Result.andThen, h1]
end Go.Proofs.YtkgppagpjbkhmaaDoor
