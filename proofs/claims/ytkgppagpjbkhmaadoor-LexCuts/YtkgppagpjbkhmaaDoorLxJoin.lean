/- A token's text that is set ahead of a blank or of a remark is cut into itself: what lexA answers at the joined texts. -/
import Derived.Test.YtkgppagpjbkhmaaDoorLxSame
namespace Go.Proofs.YtkgppagpjbkhmaaDoor
open Go.RowKit Go.Shelf

/-- The n bytes from p' on are those of another text from p on; behind them stands a blank or a stroke. -/
structure Like (s : ByteArray) (p : Nat) (s' : ByteArray) (p' n : Nat) : Prop where
  le : p + n ≤ s.size
  lt : p' + n < s'.size
  stop : byteAt s' (p' + n) = 32 ∨ byteAt s' (p' + n) = 47
  same : ∀ i, i < n → byteAt s (p + i) = byteAt s' (p' + i)
theorem Like.dec_n {s s' : ByteArray} {p p' n : Nat} (h : Like s p s' p' n) : Utf8.decode s' (p' + n) = (32, 1) ∨ Utf8.decode s' (p' + n) = (47, 1) := by
  rcases h.stop with e | e
  · left; rw [dec_ascii' s' _ (by omega), e]
  · right; rw [dec_ascii' s' _ (by omega), e]
theorem dec_word {s s' : ByteArray} {q q' : Nat} (hl : letterB (Utf8.decode s q).1 = true ∨ digitB (Utf8.decode s q).1 = true) (hq : q' + (Utf8.decode s q).2 ≤ s'.size) (hs : ∀ i, i < (Utf8.decode s q).2 → byteAt s (q + i) = byteAt s' (q' + i)) : Utf8.decode s' q' = Utf8.decode s q := by
  have hv : (Utf8.decode s q).1 ≤ 969 := by
    simp only [letterB, digitB, Bool.or_eq_true, Bool.and_eq_true, decide_eq_true_eq] at hl
    omega
  by_cases h1 : byteAt s q < 128
  · have e := dec_ascii' s q h1
    rw [e] at hs ⊢
    have h0 := hs 0 (by show 0 < 1; decide)
    rw [Nat.add_zero, Nat.add_zero] at h0
    rw [dec_ascii' s' q' (by omega), h0]
  · by_cases h2 : byteAt s q / 32 = 6 ∧ (q + 1 < s.size ∧ byteAt s (q + 1) / 64 = 2) ∧ 128 ≤ (byteAt s q % 32) * 64 + byteAt s (q + 1) % 64
    · have e : Utf8.decode s q = ((byteAt s q % 32) * 64 + byteAt s (q + 1) % 64, 2) := by
        rw [dec_bytes]
        unfold decB
        rw [if_neg h1, if_pos ⟨h2.1, h2.2.1⟩, if_pos h2.2.2]
      rw [e] at hs hq ⊢
      have a0 := hs 0 (by show 0 < 2; decide)
      have a1 := hs 1 (by show 1 < 2; decide)
      simp only [Nat.add_zero] at a0
      simp only [] at hq
      rw [dec_bytes]
      unfold decB
      rw [← a0, ← a1, if_neg h1, if_pos ⟨h2.1, by omega, h2.2.1.2⟩, if_pos h2.2.2]
    · exfalso
      rw [dec_bytes] at hv
      unfold decB at hv
      rw [if_neg h1] at hv
      repeat' split at hv
      all_goals (simp only [] at hv; omega)
theorem name_like {s s' : ByteArray} {p p' n : Nat} (h : Like s p s' p' n) : ∀ f g i c c', i ≤ n → s.size - p ≤ i + f → s'.size - p' ≤ i + g → (nameK (dropB s p) f i c).1 = n → (nameK (dropB s' p') g i c').1 = n := by
  intro f
  have hle := h.le
  have hlt := h.lt
  have hn : ∀ c' g, s'.size - p' ≤ n + g → (nameK (dropB s' p') g n c').1 = n := by
    intro c' g hg
    obtain ⟨g, rfl⟩ : ∃ g', g = g' + 1 := ⟨g - 1, by omega⟩
    have hs : nameStop (dropB s' p') n = true := by
      unfold nameStop
      rw [dec_drop]
      rcases h.dec_n with e | e <;> rw [e] <;> simp [letterB, digitB]
    unfold nameK
    rw [dropB_size, if_pos (by omega), if_pos hs]
  induction f with
  | zero =>
    intro g i c c' hi hf hg hx
    have hx : (dropB s p).size = n := hx
    rw [dropB_size] at hx
    obtain rfl : i = n := by omega
    exact hn _ _ hg
  | succ f ih =>
    intro g i c c' hi hf hg hx
    unfold nameK at hx
    rw [dropB_size] at hx
    by_cases h1 : i < s.size - p
    · rw [if_pos h1] at hx
      by_cases h2 : nameStop (dropB s p) i = true
      · rw [if_pos h2] at hx
        have hx : i = n := hx
        subst hx
        exact hn _ _ hg
      · rw [if_neg h2, dec_drop] at hx
        have hw := dec_pos s (p + i)
        have hd0 := dec_le s (p + i) (by omega)
        have hin : i + (Utf8.decode s (p + i)).2 ≤ n := by
          have ha := (name_adv s p (by omega) f (i + (Utf8.decode s (p + i)).2) (c + 1) (by omega) (by omega)).2
          have := (ha.le (by omega)).2
          rw [hx] at this
          omega
        have hd := dec_word (s := s) (s' := s') (q := p + i) (q' := p' + i) (by
          unfold nameStop at h2
          rw [dec_drop] at h2
          by_cases hz : letterB (Utf8.decode s (p + i)).1 = true
          · exact Or.inl hz
          · refine Or.inr ?_
            rw [Bool.not_eq_true] at hz
            rw [hz] at h2
            simp only [Bool.not_false, Bool.true_and, Bool.or_eq_true, decide_eq_true_eq, not_or] at h2
            have := h2.2
            simpa using this) (by omega) (fun j hj => by rw [Nat.add_assoc, Nat.add_assoc]; exact h.same (i + j) (by omega))
        have h2' : ¬ nameStop (dropB s' p') i = true := by
          unfold nameStop at h2 ⊢
          rw [dec_drop] at h2 ⊢
          rw [hd]
          exact h2
        obtain ⟨g, rfl⟩ : ∃ g', g = g' + 1 := ⟨g - 1, by omega⟩
        unfold nameK
        rw [dropB_size, if_pos (by omega), if_neg h2', dec_drop, hd]
        exact ih g _ _ _ hin (by omega) (by omega) hx
    · rw [if_neg h1] at hx
      have hx : s.size - p = n := hx
      obtain rfl : i = n := by omega
      exact hn _ _ hg
theorem pre_like {s s' : ByteArray} {p p' n : Nat} (h : Like s p s' p' n) : ∀ (l : List UInt8) (i : Nat), (l.all fun b => decide (b.toNat ≠ 32) && decide (b.toNat ≠ 47)) = true → i ≤ n → l.isPrefixOf (s'.data.toList.drop (p' + i)) = (l.isPrefixOf (s.data.toList.drop (p + i)) && decide (i + l.length ≤ n))
  | [], i, _, hi => by simp; exact hi
  | b :: r, i, hl, hi => by
    have hle := h.le
    have hlt := h.lt
    rw [List.all_cons, Bool.and_eq_true, Bool.and_eq_true, decide_eq_true_eq, decide_eq_true_eq] at hl
    rw [pre_head, pre_head]
    rcases Nat.lt_or_ge i n with g | g
    · rw [show p' + i + 1 = p' + (i + 1) by omega, pre_like h r (i + 1) hl.2 g, ← h.same i g, decide_eq_true (show p + i < s.size by omega), decide_eq_true (show p' + i < s'.size by omega)]
      rw [List.length_cons, show i + (r.length + 1) = i + 1 + r.length by omega, show p + i + 1 = p + (i + 1) by omega]
      simp only [Bool.true_and, Bool.and_assoc]
    · obtain rfl : i = n := by omega
      have hb : decide (b.toNat = byteAt s' (p' + i)) = false := by
        refine decide_eq_false ?_
        rcases h.stop with e | e <;> rw [e]
        · exact hl.1.1
        · exact hl.1.2
      rw [hb, decide_eq_false (show ¬ i + (b :: r).length ≤ i by rw [List.length_cons]; omega)]
      simp
theorem pre_like' {s s' : ByteArray} {p p' n : Nat} (h : Like s p s' p' n) (l : List UInt8) (hl : (l.all fun b => decide (b.toNat ≠ 32) && decide (b.toNat ≠ 47)) = true) : Lib.hasPrefix (dropB s' p').data.toList l = (Lib.hasPrefix (dropB s p).data.toList l && decide (l.length ≤ n)) := by
  have := pre_like h l 0 hl (Nat.zero_le _)
  rw [Nat.add_zero, Nat.add_zero, Nat.zero_add] at this
  rw [drop_list, drop_list]
  exact this
theorem sign_like {s s' : ByteArray} {p p' n : Nat} (h : Like s p s' p' n) : ∀ ls : List (List UInt8), (ls.all fun l => l.all fun b => decide (b.toNat ≠ 32) && decide (b.toNat ≠ 47)) = true → signK (dropB s p) ls ≤ n → signK (dropB s' p') ls = signK (dropB s p) ls
  | [], _, _ => rfl
  | l :: ls, hl, hx => by
    rw [List.all_cons, Bool.and_eq_true] at hl
    unfold signK at hx ⊢
    rw [pre_like' h l hl.1]
    by_cases h1 : Lib.hasPrefix (dropB s p).data.toList l = true
    · rw [if_pos h1] at hx
      rw [h1, decide_eq_true hx]
      rfl
    · rw [if_neg h1] at hx
      rw [Bool.not_eq_true] at h1
      rw [h1, Bool.false_and, if_neg Bool.false_ne_true, sign_like h ls hl.2 hx]
      rfl
theorem dig_like {s s' : ByteArray} {p p' n : Nat} (h : Like s p s' p' n) (base : Nat) (hb : base ≤ 16) : ∀ f g i v ok, i ≤ n → s.size - p ≤ i + f → s'.size - p' ≤ i + g → (digK (dropB s p) base f i v ok).1 = n → digK (dropB s' p') base g i v ok = digK (dropB s p) base f i v ok := by
  intro f
  have hle := h.le
  have hlt := h.lt
  have hn : ∀ v ok g, s'.size - p' ≤ n + g → digK (dropB s' p') base g n v ok = (n, v, ok) := by
    intro v ok g hg
    obtain ⟨g, rfl⟩ : ∃ g', g = g' + 1 := ⟨g - 1, by omega⟩
    have hs : base ≤ digitV (Utf8.decode (dropB s' p') n).1 := by
      rw [dec_drop]
      rcases h.dec_n with e | e <;> rw [e] <;> exact hb
    unfold digK
    rw [dropB_size, if_pos (by omega), if_pos hs]
  induction f with
  | zero =>
    intro g i v ok hi hf hg hx
    have hx : (dropB s p).size = n := hx
    show _ = ((dropB s p).size, v, ok)
    rw [hx]
    rw [dropB_size] at hx
    obtain rfl : i = n := by omega
    exact hn _ _ _ hg
  | succ f ih =>
    intro g i v ok hi hf hg hx
    unfold digK at hx
    conv => rhs; unfold digK
    rw [dropB_size] at hx ⊢
    by_cases h1 : i < s.size - p
    · rw [if_pos h1] at hx ⊢
      by_cases h2 : base ≤ digitV (Utf8.decode (dropB s p) i).1
      · rw [if_pos h2] at hx ⊢
        have hx : i = n := hx
        subst hx
        exact hn _ _ _ hg
      · rw [if_neg h2] at hx ⊢
        rw [dec_drop] at h2 hx ⊢
        have hlow := digV_low (Utf8.decode s (p + i)).1 (by omega)
        have hlo := dec_low s (p + i) hlow.1
        have hin : i + (Utf8.decode s (p + i)).2 ≤ n := by
          rw [← hx]
          exact (dig_adv s p base hb (by omega) f (i + (Utf8.decode s (p + i)).2) _ _ (by omega) (by omega)).1
        rw [hlo.1] at hin
        have hsame := h.same i (by omega)
        have hd : Utf8.decode s' (p' + i) = Utf8.decode s (p + i) := by
          rw [dec_ascii' s' (p' + i) (by omega), dec_ascii' s (p + i) (by omega), hsame]
        obtain ⟨g, rfl⟩ : ∃ g', g = g' + 1 := ⟨g - 1, by omega⟩
        conv => lhs; unfold digK
        rw [dropB_size, if_pos (by omega), dec_drop, hd, if_neg h2]
        exact ih g _ _ _ (by omega) (by omega) (by omega) hx
    · rw [if_neg h1] at hx ⊢
      have hx : s.size - p = n := hx
      rw [hx]
      obtain rfl : i = n := by omega
      exact hn _ _ _ hg
theorem text_like {s s' : ByteArray} {p p' n : Nat} (h : Like s p s' p' n) : s'.extract p' (p' + n) = s.extract p (p + n) := by
  have hle := h.le
  have hlt := h.lt
  apply ByteArray.ext
  apply Array.toList_inj.1
  apply List.ext_getElem?
  intro i
  have key : ∀ (t : ByteArray) (q : Nat), (t.extract q (q + n)).data.toList[i]? = if i < n then t.data.toList[q + i]? else none := by
    intro t q
    rw [ByteArray.data_extract]
    simp only [Array.toList_extract, List.extract_eq_take_drop, List.getElem?_take, List.getElem?_drop]
    rw [show q + n - q = n by omega]
  rw [key, key]
  by_cases hi : i < n
  · rw [if_pos hi, if_pos hi]
    have e := h.same i hi
    rw [byte_get, byte_get] at e
    have l1 : p + i < s.data.toList.length := by rw [Array.length_toList]; show p + i < s.size; omega
    have l2 : p' + i < s'.data.toList.length := by rw [Array.length_toList]; show p' + i < s'.size; omega
    rw [List.getElem?_eq_getElem l1, List.getElem?_eq_getElem l2] at e ⊢
    have e : s.data.toList[p + i].toNat = s'.data.toList[p' + i].toNat := e
    rw [UInt8.toNat_inj.1 e]
  · rw [if_neg hi, if_neg hi]
end Go.Proofs.YtkgppagpjbkhmaaDoor
