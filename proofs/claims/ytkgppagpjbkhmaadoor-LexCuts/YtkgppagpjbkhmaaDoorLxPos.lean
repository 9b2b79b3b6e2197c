/- The places of Lex' tokens in the table of runes. -/
import Derived.Test.YtkgppagpjbkhmaaDoorLxNames2
namespace Go.Proofs.YtkgppagpjbkhmaaDoor
open Go.RowKit Go.Shelf

/-- The decoder's answer, told by the four bytes. -/
def decB (b0 b1 b2 b3 : Nat) (h1 h2 h3 : Prop) [Decidable h1] [Decidable h2] [Decidable h3] : Nat × Nat :=
  if b0 < 128 then (b0, 1)
  else if b0 / 32 = 6 ∧ (h1 ∧ b1 / 64 = 2) then
    (if 128 ≤ (b0 % 32) * 64 + b1 % 64 then ((b0 % 32) * 64 + b1 % 64, 2) else (65533, 1))
  else if b0 / 16 = 14 ∧ (h1 ∧ b1 / 64 = 2) ∧ (h2 ∧ b2 / 64 = 2) then
    (if 2048 ≤ (b0 % 16) * 4096 + (b1 % 64) * 64 + b2 % 64 ∧ ((b0 % 16) * 4096 + (b1 % 64) * 64 + b2 % 64 < 55296 ∨ 57344 ≤ (b0 % 16) * 4096 + (b1 % 64) * 64 + b2 % 64) then ((b0 % 16) * 4096 + (b1 % 64) * 64 + b2 % 64, 3) else (65533, 1))
  else if b0 / 8 = 30 ∧ (h1 ∧ b1 / 64 = 2) ∧ (h2 ∧ b2 / 64 = 2) ∧ (h3 ∧ b3 / 64 = 2) then
    (if 65536 ≤ (b0 % 8) * 262144 + (b1 % 64) * 4096 + (b2 % 64) * 64 + b3 % 64 ∧ (b0 % 8) * 262144 + (b1 % 64) * 4096 + (b2 % 64) * 64 + b3 % 64 ≤ 1114111 then ((b0 % 8) * 262144 + (b1 % 64) * 4096 + (b2 % 64) * 64 + b3 % 64, 4) else (65533, 1))
  else (65533, 1)
theorem dec_bytes (s : ByteArray) (pos : Nat) : Utf8.decode s pos = decB (byteAt s pos) (byteAt s (pos + 1)) (byteAt s (pos + 2)) (byteAt s (pos + 3)) (pos + 1 < s.size) (pos + 2 < s.size) (pos + 3 < s.size) := by
  unfold decB Utf8.decode byteAt Utf8.valid Utf8.runeError
  simp only [Nat.add_zero, Bool.and_eq_true, beq_iff_eq, decide_eq_true_eq, Bool.or_eq_true, ge_iff_le, and_assoc]
  generalize (s.get! pos).toNat = b0
  generalize (s.get! (pos + 1)).toNat = b1
  generalize (s.get! (pos + 2)).toNat = b2
  generalize (s.get! (pos + 3)).toNat = b3
  repeat' split
  all_goals first | rfl | (exfalso; omega)
theorem byte_get (s : ByteArray) (i : Nat) : byteAt s i = ((s.data.toList[i]?).map (·.toNat)).getD 0 := by
  unfold byteAt
  have : s.get! i = s.data[i]! := rfl
  rw [this]
  by_cases h : i < s.data.size
  · rw [getElem!_pos s.data i h]
    simp [Array.getElem?_eq_getElem h]
  · rw [getElem!_neg s.data i h]
    simp [Array.getElem?_eq_none (Nat.le_of_not_lt h)]
    rfl
theorem drop_list (s : ByteArray) (p : Nat) : (dropB s p).data.toList = s.data.toList.drop p := by
  unfold dropB
  rw [ByteArray.data_extract]
  simp
  refine List.take_of_length_le ?_
  rw [List.length_drop, Array.length_toList]
  exact Nat.le_refl _
theorem byte_drop (s : ByteArray) (p i : Nat) : byteAt (dropB s p) i = byteAt s (p + i) := by
  rw [byte_get, byte_get, drop_list, List.getElem?_drop]
theorem dec_drop (s : ByteArray) (p i : Nat) : Utf8.decode (dropB s p) i = Utf8.decode s (p + i) := by
  rw [dec_bytes, dec_bytes, byte_drop, byte_drop, byte_drop, byte_drop, dropB_size]
  have e1 : (i + 1 < s.size - p) = (p + i + 1 < s.size) := propext (by omega)
  have e2 : (i + 2 < s.size - p) = (p + i + 2 < s.size) := propext (by omega)
  have e3 : (i + 3 < s.size - p) = (p + i + 3 < s.size) := propext (by omega)
  rw [show p + (i + 1) = p + i + 1 by omega, show p + (i + 2) = p + i + 2 by omega, show p + (i + 3) = p + i + 3 by omega]
  simp only [e1, e2, e3]
theorem dec_low (s : ByteArray) (p : Nat) (h : (Utf8.decode s p).1 < 128) : (Utf8.decode s p).2 = 1 ∧ (Utf8.decode s p).1 = byteAt s p := by
  rw [dec_bytes] at h ⊢
  unfold decB at h ⊢
  repeat' split at h
  all_goals simp_all
  all_goals omega
theorem dec_ascii' (s : ByteArray) (p : Nat) (h : byteAt s p < 128) : Utf8.decode s p = (byteAt s p, 1) := by
  rw [dec_bytes]
  unfold decB
  rw [if_pos h]
/-- m runes from p to q, none of them a byte 10. -/
def Adv (s : ByteArray) : Nat → Nat → Nat → Prop
  | 0, p, q => p = q
  | m + 1, p, q => p < s.size ∧ (Utf8.decode s p).1 ≠ 10 ∧ Adv s m (p + (Utf8.decode s p).2) q
theorem Adv.le {s : ByteArray} : ∀ {m p q : Nat}, Adv s m p q → p ≤ s.size → q ≤ s.size ∧ p + m ≤ q
  | 0, p, q, h, hp => by
    have h : p = q := h
    omega
  | m + 1, p, q, h, hp => by
    obtain ⟨h1, _, h3⟩ := h
    have hw := dec_pos s p
    have := Adv.le h3 (dec_le s p h1)
    omega
theorem Adv.trans {s : ByteArray} : ∀ {m n p q r : Nat}, Adv s m p q → Adv s n q r → Adv s (m + n) p r
  | 0, n, p, q, r, h, k => by
    have h : p = q := h
    subst h
    rw [Nat.zero_add]
    exact k
  | m + 1, n, p, q, r, h, k => by
    obtain ⟨h1, h2, h3⟩ := h
    rw [show m + 1 + n = (m + n) + 1 by omega]
    exact ⟨h1, h2, Adv.trans h3 k⟩
theorem name_adv (s : ByteArray) (p : Nat) (hp : p ≤ s.size) : ∀ f i n, i ≤ s.size - p → s.size - p ≤ i + f → n ≤ (nameK (dropB s p) f i n).2 ∧ Adv s ((nameK (dropB s p) f i n).2 - n) (p + i) (p + (nameK (dropB s p) f i n).1) := by
  intro f
  induction f with
  | zero =>
    intro i n h1 h2
    refine ⟨Nat.le_refl _, ?_⟩
    show Adv s (n - n) _ (p + (dropB s p).size)
    rw [Nat.sub_self, dropB_size]
    show p + i = _
    omega
  | succ f ih =>
    intro i n h1 h2
    unfold nameK
    rw [dropB_size]
    by_cases h : i < s.size - p
    · rw [if_pos h]
      by_cases hs : nameStop (dropB s p) i = true
      · rw [if_pos hs]
        refine ⟨Nat.le_refl _, ?_⟩
        show Adv s (n - n) _ _
        rw [Nat.sub_self]
        rfl
      · rw [if_neg hs]
        have hd := dec_drop s p i
        have hl := dec_le s (p + i) (by omega)
        rw [hd]
        have := ih (i + (Utf8.decode s (p + i)).2) (n + 1) (by omega) (by have := dec_pos s (p + i); omega)
        refine ⟨by omega, ?_⟩
        rw [show (nameK (dropB s p) f (i + (Utf8.decode s (p + i)).2) (n + 1)).2 - n = ((nameK (dropB s p) f (i + (Utf8.decode s (p + i)).2) (n + 1)).2 - (n + 1)) + 1 by omega]
        refine ⟨by omega, ?_, ?_⟩
        · intro e
          apply hs
          unfold nameStop
          rw [hd, e]
          simp [letterB, digitB]
        · rw [show p + i + (Utf8.decode s (p + i)).2 = p + (i + (Utf8.decode s (p + i)).2) by omega]
          exact this.2
    · rw [if_neg h]
      refine ⟨Nat.le_refl _, ?_⟩
      show Adv s (n - n) _ _
      rw [Nat.sub_self]
      show p + i = _
      simp only []
      omega
theorem rem_adv (s : ByteArray) (p : Nat) (hp : p ≤ s.size) : ∀ f i n, i ≤ s.size - p → s.size - p ≤ i + f → n ≤ (remK (dropB s p) f i n).2 ∧ Adv s ((remK (dropB s p) f i n).2 - n) (p + i) (p + (remK (dropB s p) f i n).1) := by
  intro f
  induction f with
  | zero =>
    intro i n h1 h2
    refine ⟨Nat.le_refl _, ?_⟩
    show Adv s (n - n) _ (p + (dropB s p).size)
    rw [Nat.sub_self, dropB_size]
    show p + i = _
    omega
  | succ f ih =>
    intro i n h1 h2
    unfold remK
    rw [dropB_size]
    by_cases h : i < s.size - p
    · rw [if_pos h]
      by_cases hs : remStop (dropB s p) i = true
      · rw [if_pos hs]
        refine ⟨Nat.le_refl _, ?_⟩
        show Adv s (n - n) _ _
        rw [Nat.sub_self]
        rfl
      · rw [if_neg hs]
        have hd := dec_drop s p i
        have hl := dec_le s (p + i) (by omega)
        rw [hd]
        have := ih (i + (Utf8.decode s (p + i)).2) (n + 1) (by omega) (by have := dec_pos s (p + i); omega)
        refine ⟨by omega, ?_⟩
        rw [show (remK (dropB s p) f (i + (Utf8.decode s (p + i)).2) (n + 1)).2 - n = ((remK (dropB s p) f (i + (Utf8.decode s (p + i)).2) (n + 1)).2 - (n + 1)) + 1 by omega]
        refine ⟨by omega, ?_, ?_⟩
        · intro e
          apply hs
          unfold remStop
          rw [hd, e]
          simp
        · rw [show p + i + (Utf8.decode s (p + i)).2 = p + (i + (Utf8.decode s (p + i)).2) by omega]
          exact this.2
    · rw [if_neg h]
      refine ⟨Nat.le_refl _, ?_⟩
      show Adv s (n - n) _ _
      rw [Nat.sub_self]
      show p + i = _
      simp only []
      omega
theorem digV_low (r : Nat) (h : digitV r < 16) : r < 128 ∧ r ≠ 10 := by
  unfold digitV at h
  repeat' split at h
  all_goals omega
theorem dig_adv (s : ByteArray) (p base : Nat) (hb : base ≤ 16) (hp : p ≤ s.size) : ∀ f i v ok, i ≤ s.size - p → s.size - p ≤ i + f → i ≤ (digK (dropB s p) base f i v ok).1 ∧ Adv s ((digK (dropB s p) base f i v ok).1 - i) (p + i) (p + (digK (dropB s p) base f i v ok).1) := by
  intro f
  induction f with
  | zero =>
    intro i v ok h1 h2
    show i ≤ (dropB s p).size ∧ Adv s ((dropB s p).size - i) (p + i) (p + (dropB s p).size)
    rw [dropB_size]
    refine ⟨h1, ?_⟩
    rw [show s.size - p - i = 0 by omega]
    show p + i = _
    omega
  | succ f ih =>
    intro i v ok h1 h2
    unfold digK
    rw [dropB_size]
    by_cases h : i < s.size - p
    · rw [if_pos h]
      have hd := dec_drop s p i
      rw [hd]
      by_cases hs : base ≤ digitV (Utf8.decode s (p + i)).1
      · rw [if_pos hs]
        refine ⟨Nat.le_refl _, ?_⟩
        show Adv s (i - i) _ _
        rw [Nat.sub_self]
        rfl
      · rw [if_neg hs]
        have hl := digV_low (Utf8.decode s (p + i)).1 (by omega)
        have hw := dec_low s (p + i) hl.1
        rw [hw.1]
        have := ih (i + 1) ((v * base + digitV (Utf8.decode s (p + i)).1) % 18446744073709551616) (ok && decide (v ≤ (18446744073709551615 - digitV (Utf8.decode s (p + i)).1) / base)) (by omega) (by omega)
        refine ⟨by omega, ?_⟩
        generalize (digK (dropB s p) base f (i + 1) ((v * base + digitV (Utf8.decode s (p + i)).1) % 18446744073709551616) (ok && decide (v ≤ (18446744073709551615 - digitV (Utf8.decode s (p + i)).1) / base))).1 = e at *
        rw [show e - i = (e - (i + 1)) + 1 by omega]
        refine ⟨by omega, hl.2, ?_⟩
        rw [hw.1, show p + i + 1 = p + (i + 1) by omega]
        exact this.2
    · rw [if_neg h]
      refine ⟨by simp only []; omega, ?_⟩
      show Adv s (s.size - p - i) _ _
      rw [show s.size - p - i = 0 by omega]
      show p + i = _
      simp only []
      omega
theorem runesK_fuel (s : ByteArray) : ∀ f g p l k, s.size - p ≤ f → s.size - p ≤ g → runesK s f p l k = runesK s g p l k
  | 0, 0, p, l, k, _, _ => rfl
  | 0, g + 1, p, l, k, h, _ => by
    unfold runesK
    rw [if_neg (by omega)]
  | f + 1, 0, p, l, k, _, h => by
    unfold runesK
    rw [if_neg (by omega)]
  | f + 1, g + 1, p, l, k, h1, h2 => by
    unfold runesK
    by_cases h : p < s.size
    · rw [if_pos h, if_pos h]
      have := dec_pos s p
      rw [runesK_fuel s f g _ _ _ (by omega) (by omega)]
    · rw [if_neg h, if_neg h]
/-- The rune table from rune j on: it begins at byte p, at this place. -/
def Bnd (s : ByteArray) (j p l k : Nat) : Prop := p ≤ s.size ∧ (runesA s).drop j = runesK s (s.size - p) p l k
theorem Bnd.start (s : ByteArray) : Bnd s 0 0 1 1 := ⟨Nat.zero_le _, rfl⟩
theorem Bnd.step {s : ByteArray} {j p l k : Nat} (h : Bnd s j p l k) (hp : p < s.size) : Bnd s (j + 1) (p + (Utf8.decode s p).2) (if runeI s p = 10 then l + 1 else l) (if runeI s p = 10 then 1 else k + 1) := by
  have hw := dec_pos s p
  refine ⟨dec_le s p hp, ?_⟩
  rw [← List.drop_drop, h.2]
  rw [show s.size - p = (s.size - p - 1) + 1 by omega]
  conv => lhs; unfold runesK
  rw [if_pos hp]
  show runesK _ _ _ _ _ = _
  exact runesK_fuel s _ _ _ _ _ (by omega) (by omega)
theorem runeI_ne (s : ByteArray) (p : Nat) (h : (Utf8.decode s p).1 ≠ 10) : runeI s p ≠ 10 := by
  unfold runeI
  split
  · decide
  · omega
theorem runeI_ten (s : ByteArray) (p : Nat) (h : byteAt s p = 10) : runeI s p = 10 := by
  unfold runeI
  rw [dec_ascii' s p (by omega), h]
  rfl
theorem Bnd.adv {s : ByteArray} {l : Nat} : ∀ {m j p q k : Nat}, Bnd s j p l k → Adv s m p q → Bnd s (j + m) q l (k + m)
  | 0, j, p, q, k, h, a => by
    have a : p = q := a
    subst a
    exact h
  | m + 1, j, p, q, k, h, a => by
    obtain ⟨a1, a2, a3⟩ := a
    have hs := h.step a1
    rw [if_neg (runeI_ne s p a2), if_neg (runeI_ne s p a2)] at hs
    have := hs.adv a3
    rw [show j + (m + 1) = j + 1 + m by omega, show k + (m + 1) = k + 1 + m by omega]
    exact this
theorem Bnd.line {s : ByteArray} {j p l k : Nat} (h : Bnd s j p l k) (hp : p < s.size) (hb : byteAt s p = 10) : Bnd s (j + 1) (p + 1) (l + 1) 1 := by
  have hs := h.step hp
  rw [if_pos (runeI_ten s p hb), if_pos (runeI_ten s p hb), dec_ascii' s p (by omega)] at hs
  exact hs
/-- The rune there. -/
theorem Bnd.get {s : ByteArray} {j p l k : Nat} (h : Bnd s j p l k) : ∃ x, (runesA s)[j]? = some x ∧ x.at_ = p ∧ x.line = l ∧ x.col = k ∧ (x.n = 0 ↔ p = s.size) := by
  have e : (runesA s)[j]? = ((runesA s).drop j)[0]? := by rw [List.getElem?_drop]; rfl
  rw [h.2] at e
  by_cases hp : p < s.size
  · rw [show s.size - p = (s.size - p - 1) + 1 by omega] at e
    unfold runesK at e
    rw [if_pos hp] at e
    refine ⟨_, e, rfl, rfl, rfl, ?_⟩
    have := dec_pos s p
    simp only []
    omega
  · have hq : p = s.size := Nat.le_antisymm h.1 (by omega)
    rw [show s.size - p = 0 by omega] at e
    exact ⟨_, e, hq.symm, rfl, rfl, ⟨fun _ => hq, fun _ => rfl⟩⟩
/-- Places rise. -/
def Before (l k : Nat) (x : Rn) : Prop := l < x.line ∨ (l = x.line ∧ k ≤ x.col)
theorem runesK_from (s : ByteArray) : ∀ f p l k, ∀ x ∈ runesK s f p l k, Before l k x
  | 0, p, l, k, x, h => by
    simp [runesK] at h
    subst h
    exact Or.inr ⟨rfl, Nat.le_refl _⟩
  | f + 1, p, l, k, x, h => by
    unfold runesK at h
    split at h
    · rcases List.mem_cons.1 h with h | h
      · subst h
        exact Or.inr ⟨rfl, Nat.le_refl _⟩
      · have := runesK_from s f _ _ _ x h
        unfold Before at this ⊢
        split at this <;> omega
    · simp at h
      subst h
      exact Or.inr ⟨rfl, Nat.le_refl _⟩
def Under (x y : Rn) : Prop := x.line < y.line ∨ (x.line = y.line ∧ x.col < y.col)
theorem runesK_rise (s : ByteArray) : ∀ f p l k, (runesK s f p l k).Pairwise Under
  | 0, p, l, k => by simp [runesK]
  | f + 1, p, l, k => by
    unfold runesK
    split
    · refine List.Pairwise.cons ?_ (runesK_rise s f _ _ _)
      intro y hy
      have := runesK_from s f _ _ _ y hy
      unfold Before at this
      unfold Under
      simp only []
      split at this <;> omega
    · simp
theorem runes_rise (s : ByteArray) {i j : Nat} {x y : Rn} (hi : (runesA s)[i]? = some x) (hj : (runesA s)[j]? = some y) (h : i < j) : ¬ (x.line = y.line ∧ x.col = y.col) := by
  have hp : (runesA s).Pairwise Under := runesK_rise s _ _ _ _
  rw [List.pairwise_iff_getElem] at hp
  obtain ⟨li, ei⟩ := List.getElem?_eq_some_iff.1 hi
  obtain ⟨lj, ej⟩ := List.getElem?_eq_some_iff.1 hj
  have := hp i j li lj h
  rw [ei, ej] at this
  unfold Under at this
  omega
/-- Signs and blanks. -/
theorem pre_adv (s : ByteArray) : ∀ (l : List UInt8) (p : Nat), (∀ b ∈ l, b.toNat < 128 ∧ b.toNat ≠ 10) → l.isPrefixOf (s.data.toList.drop p) = true → Adv s l.length p (p + l.length)
  | [], p, _, _ => rfl
  | b :: r, p, hl, h => by
    have h' := List.isPrefixOf_iff_prefix.1 h
    obtain ⟨t, ht⟩ := h'
    have hb : s.data.toList[p]? = some b := by
      have : (s.data.toList.drop p)[0]? = some b := by rw [← ht]; rfl
      rw [List.getElem?_drop] at this
      exact this
    have hlt : p < s.size := by
      have := (List.getElem?_eq_some_iff.1 hb).1
      rw [Array.length_toList] at this
      exact this
    have hy : byteAt s p = b.toNat := by rw [byte_get, hb]; rfl
    have hb2 := hl b (List.mem_cons_self ..)
    have hd := dec_ascii' s p (by omega)
    have hr : r.isPrefixOf (s.data.toList.drop (p + 1)) = true := by
      refine List.isPrefixOf_iff_prefix.2 ⟨t, ?_⟩
      rw [← List.drop_drop, ← ht]
      rfl
    have := pre_adv s r (p + 1) (fun c hc => hl c (List.mem_cons_of_mem _ hc)) hr
    refine ⟨hlt, ?_, ?_⟩
    · rw [hd]; show byteAt s p ≠ 10; omega
    · rw [hd]
      show Adv s r.length (p + 1) (p + (r.length + 1))
      rw [show p + (r.length + 1) = p + 1 + r.length by omega]
      exact this
theorem pre_adv' (s : ByteArray) (p : Nat) (l : List UInt8) (hl : (l.all fun b => decide (b.toNat < 128) && decide (b.toNat ≠ 10)) = true) (h : Lib.hasPrefix (dropB s p).data.toList l = true) : Adv s l.length p (p + l.length) := by
  refine pre_adv s l p ?_ ?_
  · intro b hb
    have := List.all_eq_true.1 hl b hb
    simpa using this
  · rw [← drop_list]; exact h
theorem sign_adv (s : ByteArray) (p : Nat) : ∀ ls : List (List UInt8), (ls.all fun l => l.all fun b => decide (b.toNat < 128) && decide (b.toNat ≠ 10)) = true → Adv s (signK (dropB s p) ls) p (p + signK (dropB s p) ls)
  | [], _ => rfl
  | l :: ls, h => by
    rw [List.all_cons, Bool.and_eq_true] at h
    unfold signK
    split
    · rename_i hp
      exact pre_adv' s p l h.1 hp
    · exact sign_adv s p ls h.2
theorem drop_drop (s : ByteArray) (p n : Nat) : dropB (dropB s p) n = dropB s (p + n) := by
  have : (dropB (dropB s p) n).data.toList = (dropB s (p + n)).data.toList := by
    rw [drop_list, drop_list, drop_list, List.drop_drop]
  exact ByteArray.ext (Array.toList_inj.1 this)
theorem drop_zero (s : ByteArray) : dropB s 0 = s := by
  have : (dropB s 0).data.toList = s.data.toList := by rw [drop_list, List.drop_zero]
  exact ByteArray.ext (Array.toList_inj.1 this)
theorem cut_cut (s : ByteArray) (p n : Nat) (_h : p + n ≤ s.size) : (dropB s p).extract 0 n = s.extract p (p + n) := by
  have : ((dropB s p).extract 0 n).data.toList = (s.extract p (p + n)).data.toList := by
    rw [ByteArray.data_extract, ByteArray.data_extract]
    simp only [Array.toList_extract, List.extract_eq_take_drop, drop_list, List.drop_zero]
    rw [show p + n - p = n - 0 by omega]
  exact ByteArray.ext (Array.toList_inj.1 this)
theorem cut_size (s : ByteArray) (p n : Nat) (h : p + n ≤ s.size) : (s.extract p (p + n)).size = n := by
  rw [ByteArray.size_extract]
  omega
theorem at0_drop (s : ByteArray) (p : Nat) : at0 (dropB s p) = byteAt s p := by
  have := byte_drop s p 0
  exact this
/-- Between two tokens. -/
theorem bet_bnd (s : ByteArray) : ∀ f j p l k, Bnd s j p l k → ∃ j' p', j ≤ j' ∧ p ≤ p' ∧ (betK f (dropB s p) l k).1 = dropB s p' ∧ Bnd s j' p' (betK f (dropB s p) l k).2.1 (betK f (dropB s p) l k).2.2
  | 0, j, p, l, k, h => ⟨j, p, Nat.le_refl _, Nat.le_refl _, rfl, h⟩
  | f + 1, j, p, l, k, h => by
    unfold betK
    rw [dropB_size, at0_drop]
    by_cases h0 : s.size - p = 0
    · rw [if_pos h0]
      exact ⟨j, p, Nat.le_refl _, Nat.le_refl _, rfl, h⟩
    rw [if_neg h0]
    have hp : p < s.size := by omega
    by_cases h1 : byteAt s p = 10
    · rw [if_pos h1, drop_drop]
      obtain ⟨j', p', a, b, c⟩ := bet_bnd s f _ _ _ _ (h.line hp h1)
      exact ⟨j', p', by omega, by omega, c⟩
    rw [if_neg h1]
    by_cases h2 : byteAt s p = 32 ∨ byteAt s p = 9 ∨ byteAt s p = 13
    · rw [if_pos h2, drop_drop]
      have ha : Adv s 1 p (p + 1) := by
        refine ⟨hp, ?_, ?_⟩
        · rw [dec_ascii' s p (by omega)]; exact h1
        · rw [dec_ascii' s p (by omega)]; rfl
      obtain ⟨j', p', a, b, c⟩ := bet_bnd s f _ _ _ _ (h.adv ha)
      exact ⟨j', p', by omega, by omega, c⟩
    rw [if_neg h2]
    by_cases h3 : Lib.hasPrefix (dropB s p).data.toList [47, 47] = true
    · rw [if_pos h3, drop_drop]
      have ha := (rem_adv s p h.1 (dropB s p).size 0 0 (Nat.zero_le _) (by rw [dropB_size]; omega)).2
      have ha : Adv s (remA (dropB s p)).2 p (p + (remA (dropB s p)).1) := ha
      obtain ⟨j', p', a, b, c⟩ := bet_bnd s f _ _ _ _ (h.adv ha)
      exact ⟨j', p', by omega, by omega, c⟩
    · rw [if_neg h3]
      exact ⟨j, p, Nat.le_refl _, Nat.le_refl _, rfl, h⟩
/-- A token that is taken. -/
def TokAt (s : ByteArray) (p l k : Nat) (r : TR) : Prop :=
  ∃ n m, p + n ≤ s.size ∧ r.tok.text = s.extract p (p + n) ∧ r.tok.line = l ∧ r.tok.col = k ∧ r.rest = dropB s (p + n) ∧ r.col = k + m ∧ Adv s m p (p + n) ∧ (n = 0 ↔ r.tok.kind = 5) ∧ (n = 0 → p = s.size)
theorem num_tok (s : ByteArray) (p l k a base : Nat) (hb : base ≤ 16) (ha : Adv s a p (p + a)) (hp : p ≤ s.size) (h : (numK (dropB s p) l k a base).flt.code = 0) : TokAt s p l k (numK (dropB s p) l k a base) := by
  have hd := dig_adv s (p + a) base hb (ha.le hp).1 (dropB s (p + a)).size 0 0 true (Nat.zero_le _) (by rw [dropB_size]; omega)
  unfold numK at h ⊢
  rw [drop_drop] at h ⊢
  have hd : 0 ≤ (digA (dropB s (p + a)) base).1 ∧ Adv s (digA (dropB s (p + a)) base).1 (p + a) (p + a + (digA (dropB s (p + a)) base).1) := hd
  generalize digA (dropB s (p + a)) base = g at h hd ⊢
  unfold numG at h ⊢
  by_cases h1 : g.1 = 0
  · rw [if_pos h1] at h; exact absurd h (by show ¬ (20 : Nat) = 0; decide)
  rw [if_neg h1] at h ⊢
  by_cases h2 : g.2.2 = false
  · rw [if_pos h2] at h; exact absurd h (by show ¬ (20 : Nat) = 0; decide)
  rw [if_neg h2] at h ⊢
  by_cases h3 : letterB (Lib.decodeGo (dropB (dropB s p) (a + g.1))).1 = true
  · rw [if_pos h3] at h; exact absurd h (by show ¬ (20 : Nat) = 0; decide)
  rw [if_neg h3] at h ⊢
  have hA := ha.trans hd.2
  have hle := (hA.le hp).1
  refine ⟨a + g.1, a + g.1, by omega, cut_cut s p _ (by omega), rfl, rfl, drop_drop s p _, rfl, ?_, ?_, ?_⟩
  · rw [← Nat.add_assoc p]; exact hA
  · constructor
    · intro e; omega
    · intro e; exact absurd e (by show ¬ (2 : Nat) = 5; decide)
  · intro e; omega
theorem tok_stands (s : ByteArray) (p l k : Nat) (hp : p ≤ s.size) (h : (tokR (dropB s p) l k).flt.code = 0) : TokAt s p l k (tokR (dropB s p) l k) := by
  have hn := name_adv s p hp (dropB s p).size 0 0 (Nat.zero_le _) (by rw [dropB_size]; omega)
  have hn : Adv s (nameA (dropB s p)).2 p (p + (nameA (dropB s p)).1) := hn.2
  have hs := sign_adv s p signsL (by decide)
  have hs : Adv s (signA (dropB s p)) p (p + signA (dropB s p)) := hs
  unfold tokR at h ⊢
  rw [dropB_size] at h ⊢
  by_cases h0 : s.size - p = 0
  · rw [if_pos h0]
    exact ⟨0, 0, by omega, cut_cut s p 0 (by omega), rfl, rfl, drop_drop s p 0, rfl, rfl, ⟨fun _ => rfl, fun _ => rfl⟩, fun _ => by omega⟩
  rw [if_neg h0] at h ⊢
  by_cases h1 : 0 < (nameA (dropB s p)).1
  · rw [if_pos h1]
    have hle := (hn.le hp).1
    refine ⟨(nameA (dropB s p)).1, (nameA (dropB s p)).2, hle, cut_cut s p _ hle, rfl, rfl, drop_drop s p _, rfl, hn, ?_, ?_⟩
    · constructor
      · intro e; omega
      · intro e
        simp only [] at e
        split at e <;> exact absurd e (by decide)
    · intro e; omega
  rw [if_neg h1] at h ⊢
  by_cases h2 : 0 < signA (dropB s p)
  · rw [if_pos h2]
    have hle := (hs.le hp).1
    refine ⟨signA (dropB s p), signA (dropB s p), hle, cut_cut s p _ hle, rfl, rfl, drop_drop s p _, rfl, hs, ?_, ?_⟩
    · constructor
      · intro e; omega
      · intro e; exact absurd e (by show ¬ (4 : Nat) = 5; decide)
    · intro e; omega
  rw [if_neg h2] at h ⊢
  by_cases h3 : digitB (at0 (dropB s p)) = true
  · rw [if_pos h3] at h ⊢
    unfold numR at h ⊢
    by_cases h4 : hexB (dropB s p) = true
    · rw [if_pos h4] at h ⊢
      refine num_tok s p l k 2 16 (by decide) ?_ hp h
      unfold hexB at h4
      rw [Bool.or_eq_true] at h4
      rcases h4 with h4 | h4
      · exact pre_adv' s p [48, 120] (by decide) h4
      · exact pre_adv' s p [48, 88] (by decide) h4
    · rw [if_neg h4] at h ⊢
      exact num_tok s p l k 0 10 (by decide) rfl hp h
  · rw [if_neg h3] at h
    exact absurd h (by show ¬ (20 : Nat) = 0; decide)
/-- The tokens from here on: each stands at its rune. -/
def Places (s : ByteArray) : List Tok → Nat → Nat → Prop
  | [], _, _ => False
  | t :: ts, j, e => ∃ j' p', j ≤ j' ∧ e ≤ p' ∧ Bnd s j' p' t.line t.col ∧ p' + t.text.size ≤ s.size ∧ t.text = s.extract p' (p' + t.text.size) ∧ (t.text.size = 0 ↔ t.kind = 5) ∧ ((ts = [] ∧ t.kind = 5 ∧ p' = s.size) ∨ Places s ts j' (p' + t.text.size))
theorem lex_places (s : ByteArray) : ∀ f j p l k acc toks, Bnd s j p l k → s.size - p < f → lexK f (dropB s p) l k acc = .ok toks → ∃ ts, toks = acc ++ ts ∧ Places s ts j p := by
  intro f
  induction f with
  | zero => intro j p l k acc toks _ hf _; exact absurd hf (Nat.not_lt_zero _)
  | succ f ih =>
    intro j p l k acc toks hB hf h
    obtain ⟨j', p', a, b, c, d⟩ := bet_bnd s (dropB s p).size j p l k hB
    have c : (betA (dropB s p) l k).1 = dropB s p' := c
    have d : Bnd s j' p' (betA (dropB s p) l k).2.1 (betA (dropB s p) l k).2.2 := d
    unfold lexK at h
    rw [c] at h
    generalize (betA (dropB s p) l k).2.1 = l' at h d
    generalize (betA (dropB s p) l k).2.2 = k' at h d
    by_cases h1 : (tokR (dropB s p') l' k').flt.code ≠ 0
    · rw [if_pos h1] at h; exact absurd h (by simp)
    rw [if_neg h1] at h
    have h1 : (tokR (dropB s p') l' k').flt.code = 0 := by omega
    obtain ⟨n, m, t1, t2, t3, t4, t5, t6, t7, t8, t9⟩ := tok_stands s p' l' k' d.1 h1
    generalize tokR (dropB s p') l' k' = r at h t2 t3 t4 t5 t6 t8
    have hsz : r.tok.text.size = n := by rw [t2]; exact cut_size s p' n t1
    by_cases h2 : r.tok.kind = 5
    · rw [if_pos h2] at h
      have h := Except.ok.inj h
      refine ⟨[r.tok], h.symm, j', p', a, b, ?_, by omega, ?_, ?_, Or.inl ⟨rfl, h2, t9 (t8.2 h2)⟩⟩
      · rw [t3, t4]; exact d
      · rw [hsz]; exact t2
      · rw [hsz]; exact t8
    · rw [if_neg h2] at h
      have hn0 : n ≠ 0 := fun e => h2 (t8.1 e)
      rw [t5, t6] at h
      obtain ⟨ts, e1, e2⟩ := ih (j' + m) (p' + n) l' (k' + m) _ toks (d.adv t7) (by omega) h
      refine ⟨r.tok :: ts, by rw [e1, List.append_assoc]; rfl, j', p', a, b, ?_, by omega, ?_, ?_, Or.inr ?_⟩
      · rw [t3, t4]; exact d
      · rw [hsz]; exact t2
      · rw [hsz]; exact t8
      · rw [hsz]
        have : ∀ ts j1 j2 e, j1 ≤ j2 → Places s ts j2 e → Places s ts j1 e := by
          intro ts
          cases ts with
          | nil => intro _ _ _ _ h; exact h
          | cons t ts =>
            intro j1 j2 e hj h
            obtain ⟨j', p', a, rest⟩ := h
            exact ⟨j', p', Nat.le_trans hj a, rest⟩
        exact this ts j' (j' + m) _ (by omega) e2
theorem lexA_places (s : ByteArray) (toks : List Tok) (h : lexA s = .ok toks) : s.size ≤ 65536 ∧ Places s toks 0 0 := by
  unfold lexA at h
  split at h
  · exact absurd h (by simp)
  · refine ⟨by omega, ?_⟩
    have := lex_places s (s.size + 1) 0 0 1 1 [] toks (Bnd.start s) (by omega) (by rw [drop_zero]; exact h)
    obtain ⟨ts, e1, e2⟩ := this
    rw [List.nil_append] at e1
    rw [e1]
    exact e2
end Go.Proofs.YtkgppagpjbkhmaaDoor
