/- The contracts of the reference's begins and skipped. -/
import Derived.Test.YtkgppagpjbkhmaaDoorLxRef1
namespace Go.Proofs.YtkgppagpjbkhmaaDoor
open Go.RowKit Go.Shelf

theorem pre_iff (s : ByteArray) : ∀ (l : List UInt8) (p : Nat), p ≤ s.size → (l.isPrefixOf (s.data.toList.drop p) = true ↔ p + l.length ≤ s.size ∧ ∀ j b, l[j]? = some b → byteAt s (p + j) = b.toNat)
  | [], p, hp => by simp; exact hp
  | b :: r, p, hp => by
    rw [pre_head, Bool.and_eq_true, Bool.and_eq_true, decide_eq_true_eq, decide_eq_true_eq]
    constructor
    · rintro ⟨⟨h1, h2⟩, h3⟩
      obtain ⟨h4, h5⟩ := (pre_iff s r (p + 1) h1).1 h3
      refine ⟨by rw [List.length_cons]; omega, ?_⟩
      intro j c hc
      cases j with
      | zero =>
        have : b = c := Option.some.inj hc
        rw [Nat.add_zero, ← h2, this]
      | succ j => rw [show p + (j + 1) = p + 1 + j by omega]; exact h5 j c hc
    · rintro ⟨h1, h2⟩
      rw [List.length_cons] at h1
      refine ⟨⟨by omega, (h2 0 b rfl).symm⟩, (pre_iff s r (p + 1) (by omega)).2 ⟨by omega, fun j c hc => ?_⟩⟩
      rw [show p + 1 + j = p + (j + 1) by omega]
      exact h2 (j + 1) c hc
theorem str_at (t : ByteArray) {i : Nat} (h : i < t.size) : ∃ b : UInt8, t.data.toList[i]? = some b ∧ byteAt t i = b.toNat := by
  have hl : i < t.data.toList.length := by rw [Array.length_toList]; exact h
  exact ⟨t.data.toList[i], List.getElem?_eq_getElem hl, by rw [byte_get, List.getElem?_eq_getElem hl]; rfl⟩
theorem index_str (t : ByteArray) {i : Nat} (h : i < t.size) (w : World) : (Instr.index 9 (.string t) (.int .i64 ((i : Nat) : Int))).run Tryd.prog w = .ok (.int .u8 ((byteAt t i : Nat) : Int)) w := by
  rw [run_index_string (P := Tryd.prog) w 9 t .i64 ((i : Nat) : Int) Tryd.underlying9, dif_pos ⟨by omega, by omega⟩]
  have hb : (t[i]'h).toNat = byteAt t i := by
    unfold byteAt
    show _ = (t.data[i]!).toNat
    rw [getElem!_pos t.data i h]
    rfl
  rw [← hb]
  rfl
theorem wrapI_sum (a b : Nat) (ha : a + b ≤ 281474976710656) : IntKind.i64.wrap (((a : Nat) : Int) + ((b : Nat) : Int)) = ((a : Nat) : Int) + ((b : Nat) : Int) := by
  rw [IntKind.wrap_i64]
  omega
theorem wrap_dif (a b : Nat) (h : b ≤ a) (ha : a ≤ 281474976710656) : wrap64 (((a : Nat) : Int) - ((b : Nat) : Int)) = ((a : Nat) : Int) - ((b : Nat) : Int) := by
  unfold wrap64
  omega
set_option maxRecDepth 100000 in
set_option maxHeartbeats 4000000 in
theorem rBegins_calls (v : Value) (s t : ByteArray) (p : Nat) (w : World) (hv : BytesR w v s) (hp : p ≤ s.size) (hs : s.size ≤ 65536) (ht : t.size ≤ 65536) :
    Calls Tryd.prog 30 #[v, .int .i64 ((p : Nat) : Int), .string t] w fun e w' => e = .returned (.bool (t.data.toList.isPrefixOf (s.data.toList.drop p))) ∧ ∃ m, w' = w.drewN m := by
  have HP := hid_of (pre_iff s t.data.toList p hp)
  have htl : t.data.toList.length = t.size := by rw [Array.length_toList]; rfl
  rw [htl] at HP
  have w1 := wrap_dif s.size p hp (by omega)
  by_cases h1 : s.size - p < t.size
  · have k1 : ((s.size : Nat) : Int) - ((p : Nat) : Int) < ((t.size : Nat) : Int) := by omega
    have HE : Hid (t.data.toList.isPrefixOf (s.data.toList.drop p) = false) := by
      rw [Hid, Bool.eq_false_iff]
      intro e
      have := (HP.out.1 e).1
      omega
    obtain ⟨x, cap, rfl⟩ := hv.form
    clear HP
    go_enter Tryd.func30, Tryd.ntmps30
    go_wp2_with fail
    go_ret
    exact ⟨ret_bool HE.out.symm, 0, rfl⟩
  · have k1 : ¬ ((s.size : Nat) : Int) - ((p : Nat) : Int) < ((t.size : Nat) : Int) := by omega
    obtain ⟨x, cap, hxv⟩ := hv.form
    subst hxv
    go_enter Tryd.func30, Tryd.ntmps30
    go_wp2_with fail
    clear w1 k1
    go_loopw [7] (fun i wr => ∃ (k m : Nat), k ≤ t.size ∧ i = .int .i64 ((k : Nat) : Int) ∧ Hid (∀ j b, j < k → t.data.toList[j]? = some b → byteAt s (p + j) = b.toNat) ∧ wr = w.drewN m) (fun i _ => t.size - (intOf i).toNat)
    case atStart => exact ⟨0, 0, by omega, rfl, fun j b hj => by omega, rfl⟩
    case round =>
      obtain ⟨k, m, hk, rfl, HN, rfl⟩ := hrel
      by_cases hlt : k < t.size
      · have k0 : (0 : Int) ≤ ((k : Nat) : Int) := by omega
        have k1 : ((k : Nat) : Int) < ((t.size : Nat) : Int) := by omega
        obtain ⟨b, hb1, hb2⟩ := str_at t hlt
        have hix := fun W => index_str t hlt W
        obtain ⟨g, o, cap', hxe, hc⟩ := bytes_at hv (show p + k < s.size by omega)
        cases hxe
        have c0 := hc (p + k) (by omega)
        have a0 : (0 : Int) ≤ ((p : Nat) : Int) + ((k : Nat) : Int) := by omega
        have a1 : ((p : Nat) : Int) + ((k : Nat) : Int) < ((s.size : Nat) : Int) := by omega
        have a2 : (((p : Nat) : Int) + ((k : Nat) : Int)).toNat = p + k := by omega
        have w2 := wrapI_sum p k (by omega)
        rw [hb2] at hix
        by_cases hq : byteAt s (p + k) = b.toNat
        · have q1 : (((byteAt s (p + k) : Nat) : Int) != ((b.toNat : Nat) : Int)) = false := by simp [hq]
          have HN2 : Hid (∀ j b, j < k + 1 → t.data.toList[j]? = some b → byteAt s (p + j) = b.toNat) := by
            intro j c hj hc2
            by_cases e : j = k
            · subst e
              rw [hb1] at hc2
              rw [hq, Option.some.inj hc2]
            · exact HN.out j c (by omega) hc2
          generalize byteAt s (p + k) = z at *
          clear hq hb1 hb2 hc HN
          go_wp2_with fail
          go_quiet (fail)
          go_wp2_with fail
          exact ⟨⟨k + 1, _, by omega, by go_num, HN2, rfl⟩, by simp [intOf]; omega⟩
        · have q1 : (((byteAt s (p + k) : Nat) : Int) != ((b.toNat : Nat) : Int)) = true := by
            simp only [bne_iff_ne, ne_eq]
            omega
          have HE : Hid (t.data.toList.isPrefixOf (s.data.toList.drop p) = false) := by
            rw [Hid, Bool.eq_false_iff]
            intro e
            exact hq ((HP.out.1 e).2 k b hb1)
          generalize byteAt s (p + k) = z at *
          clear hq hb1 hb2 hc HN HP
          go_wp2_with fail
          go_quiet (fail)
          go_wp2_with fail
          go_ret
          exact ⟨ret_bool HE.out.symm, m + nq, by rw [World.drewN_drewN]⟩
      · obtain rfl : k = t.size := by omega
        have HE : Hid (t.data.toList.isPrefixOf (s.data.toList.drop p) = true) := by
          rw [Hid]
          refine HP.out.2 ⟨by omega, fun j b hb => HN.out j b ?_ hb⟩
          have := (List.getElem?_eq_some_iff.1 hb).1
          omega
        clear HN HP
        go_wp2_with fail
        go_ret
        exact ⟨ret_bool HE.out.symm, _, rfl⟩
/-- The rune at an index of the table. -/
theorem Bnd.rune {s : ByteArray} {j p l k : Nat} (h : Bnd s j p l k) : (runesA s)[j]? = some (if p < s.size then ⟨runeI s p, p, (Utf8.decode s p).2, l, k⟩ else ⟨0, p, 0, l, k⟩) := by
  have e : (runesA s)[j]? = ((runesA s).drop j)[0]? := by rw [List.getElem?_drop]; rfl
  rw [h.2] at e
  by_cases hp : p < s.size
  · rw [show s.size - p = (s.size - p - 1) + 1 by omega] at e
    unfold runesK at e
    rw [if_pos hp] at e
    rw [e, if_pos hp]
    rfl
  · have hq : p = s.size := Nat.le_antisymm h.1 (by omega)
    rw [show s.size - p = 0 by omega] at e
    rw [e, if_neg hp, hq]
    rfl
theorem Bnd.lt {s : ByteArray} {j p l k : Nat} (h : Bnd s j p l k) : j < (runesA s).length := (List.getElem?_eq_some_iff.1 h.rune).1
theorem runeI_low (s : ByteArray) (p c : Nat) (hc : c < 128) : runeI s p = (c : Int) ↔ byteAt s p = c := by
  unfold runeI
  by_cases hb : byteAt s p < 128
  · rw [dec_ascii' s p hb, if_neg (by simp only []; omega)]
    simp only []
    omega
  · have : ¬ (Utf8.decode s p).1 < 128 := fun e => hb ((dec_low s p e).2 ▸ e)
    split
    · omega
    · omega
theorem blank_same (s : ByteArray) (p l k : Nat) : blankRB ⟨runeI s p, p, (Utf8.decode s p).2, l, k⟩ = true ↔ (byteAt s p = 10 ∨ byteAt s p = 32 ∨ byteAt s p = 9 ∨ byteAt s p = 13) := by
  have hw := dec_pos s p
  have h9 := runeI_low s p 9 (by decide)
  have h10 := runeI_low s p 10 (by decide)
  have h13 := runeI_low s p 13 (by decide)
  have h32 := runeI_low s p 32 (by decide)
  unfold blankRB
  simp only [Bool.and_eq_true, Bool.or_eq_true, decide_eq_true_eq]
  constructor
  · rintro ⟨_, h⟩
    omega
  · intro h
    refine ⟨by omega, ?_⟩
    omega
theorem six_same (s : ByteArray) (p l k : Nat) : sixN ⟨runeI s p, p, (Utf8.decode s p).2, l, k⟩ = digitV (Utf8.decode s p).1 := by
  have hw := dec_pos s p
  unfold sixN digitV runeI digitRB
  generalize (Utf8.decode s p).1 = r at *
  generalize (Utf8.decode s p).2 = n at *
  simp only [Bool.and_eq_true, decide_eq_true_eq]
  repeat' split
  all_goals omega
theorem letter_rune (s : ByteArray) (p l k : Nat) : letterRB ⟨runeI s p, p, (Utf8.decode s p).2, l, k⟩ = letterB (Utf8.decode s p).1 := by
  have hw := dec_pos s p
  unfold letterRB letterB runeI
  generalize (Utf8.decode s p).1 = r at *
  generalize (Utf8.decode s p).2 = n at *
  rw [Bool.eq_iff_iff]
  simp only [Bool.and_eq_true, Bool.or_eq_true, decide_eq_true_eq]
  split <;> omega
theorem digit_rune (s : ByteArray) (p l k : Nat) : digitRB ⟨runeI s p, p, (Utf8.decode s p).2, l, k⟩ = digitB (Utf8.decode s p).1 := by
  have hw := dec_pos s p
  unfold digitRB digitB runeI
  generalize (Utf8.decode s p).1 = r at *
  generalize (Utf8.decode s p).2 = n at *
  rw [Bool.eq_iff_iff]
  simp only [Bool.and_eq_true, decide_eq_true_eq]
  split <;> omega
theorem dec_err (s : ByteArray) (q : Nat) (h : (Utf8.decode s q).1 = 65533) : (Utf8.decode s q).2 = 1 ∨ (q + 3 ≤ s.size ∧ byteAt s q = 239 ∧ byteAt s (q + 1) = 191 ∧ byteAt s (q + 2) = 189) := by
  rw [dec_bytes] at h ⊢
  generalize hD : decB (byteAt s q) (byteAt s (q + 1)) (byteAt s (q + 2)) (byteAt s (q + 3)) (q + 1 < s.size) (q + 2 < s.size) (q + 3 < s.size) = D at h ⊢
  unfold decB at hD
  generalize byteAt s q = b0 at *
  generalize byteAt s (q + 1) = b1 at *
  generalize byteAt s (q + 2) = b2 at *
  generalize byteAt s (q + 3) = b3 at *
  by_cases c1 : b0 < 128
  · rw [if_pos c1] at hD
    subst hD
    simp only [] at h
    omega
  rw [if_neg c1] at hD
  by_cases c2 : b0 / 32 = 6 ∧ (q + 1 < s.size ∧ b1 / 64 = 2)
  · rw [if_pos c2] at hD
    split at hD
    · subst hD
      simp only [] at h
      omega
    · subst hD
      exact Or.inl rfl
  rw [if_neg c2] at hD
  by_cases c3 : b0 / 16 = 14 ∧ (q + 1 < s.size ∧ b1 / 64 = 2) ∧ (q + 2 < s.size ∧ b2 / 64 = 2)
  · rw [if_pos c3] at hD
    split at hD
    · subst hD
      simp only [] at h
      exact Or.inr (by omega)
    · subst hD
      exact Or.inl rfl
  rw [if_neg c3] at hD
  by_cases c4 : b0 / 8 = 30 ∧ (q + 1 < s.size ∧ b1 / 64 = 2) ∧ (q + 2 < s.size ∧ b2 / 64 = 2) ∧ (q + 3 < s.size ∧ b3 / 64 = 2)
  · rw [if_pos c4] at hD
    split at hD
    · subst hD
      simp only [] at h
      omega
    · subst hD
      exact Or.inl rfl
  rw [if_neg c4] at hD
  subst hD
  exact Or.inl rfl
/-- A rune that stops a remark. -/
theorem rem_rune (s : ByteArray) (p i : Nat) (hp : p + i < s.size) : remStop (dropB s p) i = true ↔ (runeI s (p + i) = 10 ∨ runeI s (p + i) < 0) := by
  rw [remStop_at]
  have hx := pre_iff s [239, 191, 189] (p + i) (by omega)
  have hh : Lib.hasPrefix (dropB s (p + i)).data.toList [239, 191, 189] = ([239, 191, 189] : List UInt8).isPrefixOf (s.data.toList.drop (p + i)) := by rw [drop_list]; rfl
  rw [hh]
  unfold runeI
  by_cases he : (Utf8.decode s (p + i)).1 = 65533
  · have e3 : ([239, 191, 189] : List UInt8).length = 3 := rfl
    rw [e3] at hx
    have key : (Utf8.decode s (p + i)).2 = 1 ↔ ([239, 191, 189] : List UInt8).isPrefixOf (s.data.toList.drop (p + i)) = false := by
      rw [Bool.eq_false_iff, ne_eq, hx]
      constructor
      · rintro h1 ⟨h2, h3⟩
        have b0 : byteAt s (p + i) = 239 := h3 0 239 rfl
        have b1 : byteAt s (p + i + 1) = 191 := h3 1 191 rfl
        have b2 : byteAt s (p + i + 2) = 189 := h3 2 189 rfl
        rw [dec_bytes, b0, b1, b2] at h1
        unfold decB at h1
        rw [if_neg (by decide), if_neg (by omega), if_pos ⟨by decide, ⟨by omega, by decide⟩, ⟨by omega, by decide⟩⟩, if_pos (by decide)] at h1
        exact absurd h1 (by decide)
      · intro h
        rcases dec_err s (p + i) he with h1 | ⟨h1, h2, h3, h4⟩
        · exact h1
        · exfalso
          apply h
          refine ⟨h1, ?_⟩
          intro j b hb
          match j, hb with
          | 0, hb => rw [← Option.some.inj hb]; exact h2
          | 1, hb => rw [← Option.some.inj hb]; exact h3
          | 2, hb => rw [← Option.some.inj hb]; exact h4
          | j + 3, hb => exact absurd hb (by simp)
    rw [he]
    generalize ([239, 191, 189] : List UInt8).isPrefixOf (s.data.toList.drop (p + i)) = P at key
    generalize (Utf8.decode s (p + i)).2 = n at key
    cases P
    · have : n = 1 := key.2 rfl
      subst this
      decide
    · have : n ≠ 1 := fun e => absurd (key.1 e) (by decide)
      rw [if_neg (fun h => this h.2)]
      decide
  · rw [if_neg (fun h => he h.1)]
    simp only [decide_eq_true_eq, Bool.or_eq_true, Bool.and_eq_true]
    omega
/-- Steps between two tokens. -/
theorem bet_step_blank {s : ByteArray} {j p l k f : Nat} (hB : Bnd s j p l k) (hp : p < s.size) (hb : byteAt s p = 10 ∨ byteAt s p = 32 ∨ byteAt s p = 9 ∨ byteAt s p = 13) (hf : s.size - p ≤ f) :
    ∃ p2 l2 k2 f2, Bnd s (j + 1) p2 l2 k2 ∧ s.size - p2 ≤ f2 ∧ betK f (dropB s p) l k = betK f2 (dropB s p2) l2 k2 := by
  obtain ⟨f, rfl⟩ : ∃ g, f = g + 1 := ⟨f - 1, by omega⟩
  by_cases h10 : byteAt s p = 10
  · refine ⟨p + 1, l + 1, 1, f, hB.line hp h10, by omega, ?_⟩
    conv => lhs; unfold betK
    rw [dropB_size, if_neg (by omega), at0_drop, if_pos h10, drop_drop]
  · refine ⟨p + 1, l, k + 1, f, hB.adv (m := 1) ⟨hp, by rw [dec_ascii' s p (by omega)]; exact h10, by rw [dec_ascii' s p (by omega)]; rfl⟩, by omega, ?_⟩
    conv => lhs; unfold betK
    rw [dropB_size, if_neg (by omega), at0_drop, if_neg h10, if_pos (by omega), drop_drop]
theorem bet_step_rem {s : ByteArray} {p l k f : Nat} (hb : ¬ (byteAt s p = 10 ∨ byteAt s p = 32 ∨ byteAt s p = 9 ∨ byteAt s p = 13)) (hx : ([47, 47] : List UInt8).isPrefixOf (s.data.toList.drop p) = true) (hf : s.size - p ≤ f) :
    ∃ f2, f = f2 + 1 ∧ p < s.size ∧ 1 ≤ (remA (dropB s p)).1 ∧ betK f (dropB s p) l k = betK f2 (dropB s (p + (remA (dropB s p)).1)) l (k + (remA (dropB s p)).2) := by
  have hx2 := hx
  rw [pre_head, Bool.and_eq_true, Bool.and_eq_true, decide_eq_true_eq, decide_eq_true_eq] at hx2
  have hp := hx2.1.1
  obtain ⟨f, rfl⟩ : ∃ g, f = g + 1 := ⟨f - 1, by omega⟩
  have hh : Lib.hasPrefix (dropB s p).data.toList [47, 47] = true := by
    show ([47, 47] : List UInt8).isPrefixOf (dropB s p).data.toList = true
    rw [drop_list]
    exact hx
  refine ⟨f, rfl, hp, remA_pos _ (by rw [dropB_size]; omega) (pre_at0 _ hh).2, ?_⟩
  conv => lhs; unfold betK
  rw [dropB_size, if_neg (by omega), at0_drop, if_neg (by omega), if_neg (by omega), if_pos hh, drop_drop]
theorem bet_step_none {s : ByteArray} {p l k f : Nat} (hb : p < s.size → ¬ (byteAt s p = 10 ∨ byteAt s p = 32 ∨ byteAt s p = 9 ∨ byteAt s p = 13) ∧ ([47, 47] : List UInt8).isPrefixOf (s.data.toList.drop p) = false) : betK f (dropB s p) l k = (dropB s p, l, k) := by
  cases f with
  | zero => rfl
  | succ f =>
    unfold betK
    by_cases hp : p < s.size
    · obtain ⟨h1, h2⟩ := hb hp
      have hh : ¬ Lib.hasPrefix (dropB s p).data.toList [47, 47] = true := by
        show ¬ ([47, 47] : List UInt8).isPrefixOf (dropB s p).data.toList = true
        rw [drop_list, h2]
        exact Bool.false_ne_true
      rw [dropB_size, if_neg (by omega), at0_drop, if_neg (by omega), if_neg (by omega), if_neg hh]
    · rw [dropB_size, if_pos (by omega)]
/-- A step of a remark. -/
theorem rem_step {s : ByteArray} {p q n g : Nat} (hpq : p ≤ q) (hq : q < s.size) (hg : s.size - q ≤ g) (hr : ¬ (runeI s q = 10 ∨ runeI s q < 0)) : ∃ g2, s.size - (q + (Utf8.decode s q).2) ≤ g2 ∧ remK (dropB s p) g (q - p) n = remK (dropB s p) g2 (q + (Utf8.decode s q).2 - p) (n + 1) := by
  obtain ⟨g, rfl⟩ : ∃ g', g = g' + 1 := ⟨g - 1, by omega⟩
  have hw := dec_pos s q
  have e : p + (q - p) = q := by omega
  have hs : ¬ remStop (dropB s p) (q - p) = true := by
    rw [rem_rune s p (q - p) (by omega), e]
    exact hr
  refine ⟨g, by omega, ?_⟩
  conv => lhs; unfold remK
  rw [dropB_size, if_pos (by omega), if_neg hs, dec_drop, e, show q - p + (Utf8.decode s q).2 = q + (Utf8.decode s q).2 - p by omega]
theorem rem_stop {s : ByteArray} {p q n g : Nat} (hpq : p ≤ q) (hqs : q ≤ s.size) (hg : s.size - q ≤ g) (hr : q < s.size → (runeI s q = 10 ∨ runeI s q < 0)) : remK (dropB s p) g (q - p) n = (q - p, n) := by
  by_cases hq : q < s.size
  · obtain ⟨g, rfl⟩ : ∃ g', g = g' + 1 := ⟨g - 1, by omega⟩
    have e : p + (q - p) = q := by omega
    have hs : remStop (dropB s p) (q - p) = true := by
      rw [rem_rune s p (q - p) (by omega), e]
      exact hr hq
    unfold remK
    rw [dropB_size, if_pos (by omega), if_pos hs]
  · rw [remK_end (by rw [dropB_size]; omega), dropB_size, show s.size = q by omega]
end Go.Proofs.YtkgppagpjbkhmaaDoor
