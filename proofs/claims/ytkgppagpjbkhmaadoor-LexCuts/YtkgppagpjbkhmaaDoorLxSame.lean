/- Two texts that are the same up to a byte 10 of the second: the lexer's measures agree below it, and a fault on the line that ends there is the same. -/
import Derived.Test.YtkgppagpjbkhmaaDoorLxPos
namespace Go.Proofs.YtkgppagpjbkhmaaDoor
open Go.RowKit Go.Shelf

/-- Two texts that are the same below m; there the first ends or has a byte 10, and the second has a byte 10. -/
structure Rel (m : Nat) (s s' : ByteArray) : Prop where
  le : m ≤ s.size
  stop : m < s.size → byteAt s m = 10
  lt : m < s'.size
  ten : byteAt s' m = 10
  same : ∀ i, i < m → byteAt s i = byteAt s' i
theorem Rel.cont {m : Nat} {s s' : ByteArray} (h : Rel m s s') : ¬ (m < s.size ∧ byteAt s m / 64 = 2) ∧ ¬ (m < s'.size ∧ byteAt s' m / 64 = 2) := by
  constructor
  · rintro ⟨h1, h2⟩
    rw [h.stop h1] at h2
    omega
  · rintro ⟨h1, h2⟩
    rw [h.ten] at h2
    omega
theorem Rel.dec {m : Nat} {s s' : ByteArray} (h : Rel m s s') {p : Nat} (hp : p < m) : Utf8.decode s p = Utf8.decode s' p ∧ p + (Utf8.decode s p).2 ≤ m := by
  have hm := h.le
  have hl := h.lt
  obtain ⟨n1, n2⟩ := h.cont
  rw [dec_bytes, dec_bytes]
  have e0 := h.same p hp
  rcases Nat.lt_or_ge (p + 1) m with g1 | g1
  · have e1 := h.same (p + 1) g1
    rcases Nat.lt_or_ge (p + 2) m with g2 | g2
    · have e2 := h.same (p + 2) g2
      rcases Nat.lt_or_ge (p + 3) m with g3 | g3
      · have e3 := h.same (p + 3) g3
        have t1 : (p + 1 < s.size) = True := eq_true (by omega)
        have t2 : (p + 2 < s.size) = True := eq_true (by omega)
        have t3 : (p + 3 < s.size) = True := eq_true (by omega)
        have u1 : (p + 1 < s'.size) = True := eq_true (by omega)
        have u2 : (p + 2 < s'.size) = True := eq_true (by omega)
        have u3 : (p + 3 < s'.size) = True := eq_true (by omega)
        unfold decB
        simp only [e0, e1, e2, e3, t1, t2, t3, u1, u2, u3]
        refine ⟨trivial, ?_⟩
        repeat' split
        all_goals (simp only []; omega)
      · obtain rfl : p + 3 = m := by omega
        have t1 : (p + 1 < s.size) = True := eq_true (by omega)
        have t2 : (p + 2 < s.size) = True := eq_true (by omega)
        have u1 : (p + 1 < s'.size) = True := eq_true (by omega)
        have u2 : (p + 2 < s'.size) = True := eq_true (by omega)
        have n1 := eq_false n1
        have n2 := eq_false n2
        unfold decB
        simp only [n1, n2, e0, e1, e2, t1, t2, u1, u2, and_false, if_false]
        refine ⟨trivial, ?_⟩
        repeat' split
        all_goals (simp only []; omega)
    · obtain rfl : p + 2 = m := by omega
      have t1 : (p + 1 < s.size) = True := eq_true (by omega)
      have u1 : (p + 1 < s'.size) = True := eq_true (by omega)
      have n1 := eq_false n1
      have n2 := eq_false n2
      unfold decB
      simp only [n1, n2, e0, e1, t1, u1, and_false, false_and, if_false]
      refine ⟨trivial, ?_⟩
      repeat' split
      all_goals (simp only []; omega)
  · obtain rfl : p + 1 = m := by omega
    have n1 := eq_false n1
    have n2 := eq_false n2
    unfold decB
    simp only [n1, n2, e0, and_false, false_and, if_false]
    refine ⟨trivial, ?_⟩
    repeat' split
    all_goals (simp only []; omega)
theorem Rel.dec_m {m : Nat} {s s' : ByteArray} (h : Rel m s s') : Utf8.decode s' m = (10, 1) ∧ (m < s.size → Utf8.decode s m = (10, 1)) := by
  refine ⟨?_, fun hm => ?_⟩
  · rw [dec_ascii' s' m (by rw [h.ten]; decide), h.ten]
  · rw [dec_ascii' s m (by rw [h.stop hm]; decide), h.stop hm]
theorem name_same {m : Nat} {s s' : ByteArray} (h : Rel m s s') (p : Nat) (hp : p ≤ m) : ∀ f g i n, p + i ≤ m → s.size - p ≤ i + f → s'.size - p ≤ i + g → nameK (dropB s p) f i n = nameK (dropB s' p) g i n ∧ p + (nameK (dropB s p) f i n).1 ≤ m := by
  intro f
  induction f with
  | zero =>
    intro g i n hi hf hg
    have hl := h.lt
    have hm := h.le
    have he : p + i = m := by omega
    obtain ⟨g, rfl⟩ : ∃ g', g = g' + 1 := ⟨g - 1, by omega⟩
    have hs : nameStop (dropB s' p) i = true := by
      unfold nameStop
      rw [dec_drop, he, h.dec_m.1]
      simp [letterB, digitB]
    show ((dropB s p).size, n) = _ ∧ p + (dropB s p).size ≤ m
    unfold nameK
    rw [dropB_size, dropB_size, if_pos (by omega), if_pos hs]
    refine ⟨by rw [show s.size - p = i by omega], by omega⟩
  | succ f ih =>
    intro g i n hi hf hg
    have hl := h.lt
    have hm := h.le
    obtain ⟨g, rfl⟩ : ∃ g', g = g' + 1 := ⟨g - 1, by omega⟩
    rcases Nat.lt_or_ge (p + i) m with hlt | hge
    · obtain ⟨e1, e2⟩ := h.dec hlt
      have hw := dec_pos s (p + i)
      have es : nameStop (dropB s p) i = nameStop (dropB s' p) i := by
        unfold nameStop
        rw [dec_drop, dec_drop, e1]
      unfold nameK
      rw [dropB_size, dropB_size, if_pos (show i < s.size - p by omega), if_pos (show i < s'.size - p by omega), es]
      by_cases hs : nameStop (dropB s' p) i = true
      · rw [if_pos hs, if_pos hs]
        exact ⟨rfl, hi⟩
      · rw [if_neg hs, if_neg hs, dec_drop, dec_drop, ← e1]
        exact ih g _ _ (by omega) (by omega) (by omega)
    · have he : p + i = m := by omega
      have hs : nameStop (dropB s' p) i = true := by
        unfold nameStop
        rw [dec_drop, he, h.dec_m.1]
        simp [letterB, digitB]
      unfold nameK
      rw [dropB_size, dropB_size, if_pos (show i < s'.size - p by omega), if_pos hs]
      by_cases hlt : i < s.size - p
      · have hs2 : nameStop (dropB s p) i = true := by
          unfold nameStop
          rw [dec_drop, he, h.dec_m.2 (by omega)]
          simp [letterB, digitB]
        rw [if_pos hlt, if_pos hs2]
        exact ⟨rfl, hi⟩
      · rw [if_neg hlt]
        exact ⟨by rw [show s.size - p = i by omega], by simp only []; omega⟩
theorem dig_same {m : Nat} {s s' : ByteArray} (h : Rel m s s') (base p : Nat) (hb : base ≤ 16) (hp : p ≤ m) : ∀ f g i v ok, p + i ≤ m → s.size - p ≤ i + f → s'.size - p ≤ i + g → digK (dropB s p) base f i v ok = digK (dropB s' p) base g i v ok ∧ p + (digK (dropB s p) base f i v ok).1 ≤ m := by
  intro f
  have h10 : base ≤ digitV 10 := by show base ≤ 16; exact hb
  induction f with
  | zero =>
    intro g i v ok hi hf hg
    have hl := h.lt
    have hm := h.le
    have he : p + i = m := by omega
    obtain ⟨g, rfl⟩ : ∃ g', g = g' + 1 := ⟨g - 1, by omega⟩
    show ((dropB s p).size, v, ok) = _ ∧ p + (dropB s p).size ≤ m
    unfold digK
    rw [dropB_size, dropB_size, if_pos (by omega), dec_drop, he, h.dec_m.1, if_pos h10]
    refine ⟨by rw [show s.size - p = i by omega], by omega⟩
  | succ f ih =>
    intro g i v ok hi hf hg
    have hl := h.lt
    have hm := h.le
    obtain ⟨g, rfl⟩ : ∃ g', g = g' + 1 := ⟨g - 1, by omega⟩
    rcases Nat.lt_or_ge (p + i) m with hlt | hge
    · obtain ⟨e1, e2⟩ := h.dec hlt
      have hw := dec_pos s (p + i)
      unfold digK
      rw [dropB_size, dropB_size, if_pos (show i < s.size - p by omega), if_pos (show i < s'.size - p by omega), dec_drop, dec_drop, ← e1]
      by_cases hs : base ≤ digitV (Utf8.decode s (p + i)).1
      · rw [if_pos hs, if_pos hs]
        exact ⟨rfl, hi⟩
      · rw [if_neg hs, if_neg hs]
        exact ih g _ _ _ (by omega) (by omega) (by omega)
    · have he : p + i = m := by omega
      unfold digK
      rw [dropB_size, dropB_size, if_pos (show i < s'.size - p by omega), dec_drop, dec_drop, he, h.dec_m.1, if_pos h10]
      by_cases hlt : i < s.size - p
      · rw [if_pos hlt, h.dec_m.2 (by omega), if_pos h10]
        exact ⟨rfl, hi⟩
      · rw [if_neg hlt]
        exact ⟨by rw [show s.size - p = i by omega], by simp only []; omega⟩
/-- Is there this list of bytes, none of them 10? -/
theorem pre_head (s : ByteArray) (p : Nat) (b : UInt8) (r : List UInt8) : (b :: r).isPrefixOf (s.data.toList.drop p) = (decide (p < s.size) && decide (b.toNat = byteAt s p) && r.isPrefixOf (s.data.toList.drop (p + 1))) := by
  by_cases h : p < s.size
  · have hl : p < s.data.toList.length := by rw [Array.length_toList]; exact h
    have hb : byteAt s p = s.data.toList[p].toNat := by rw [byte_get, List.getElem?_eq_getElem hl]; rfl
    rw [List.drop_eq_getElem_cons hl, List.isPrefixOf, hb]
    have : (b == s.data.toList[p]) = decide (b.toNat = s.data.toList[p].toNat) := by
      by_cases e : b = s.data.toList[p]
      · simp [e]
      · have e2 : b.toNat ≠ s.data.toList[p].toNat := fun e' => e (UInt8.toNat_inj.1 e')
        rw [beq_eq_false_iff_ne.2 e, decide_eq_false e2]
    rw [this, decide_eq_true h]
    simp
  · rw [List.drop_eq_nil_of_le (by rw [Array.length_toList]; show s.size ≤ p; omega), decide_eq_false h]
    rfl
theorem pre_same {m : Nat} {s s' : ByteArray} (h : Rel m s s') : ∀ (l : List UInt8) (p : Nat), (l.all fun b => decide (b.toNat ≠ 10)) = true → p ≤ m → l.isPrefixOf (s.data.toList.drop p) = l.isPrefixOf (s'.data.toList.drop p)
  | [], p, _, _ => by simp
  | b :: r, p, hl, hp => by
    rw [List.all_cons, Bool.and_eq_true, decide_eq_true_eq] at hl
    have hm := h.le
    have hlt := h.lt
    rw [pre_head, pre_head]
    rcases Nat.lt_or_ge p m with g | g
    · rw [pre_same h r (p + 1) hl.2 g, h.same p g, decide_eq_true (by omega : p < s.size), decide_eq_true (by omega : p < s'.size)]
    · obtain rfl : p = m := by omega
      rw [h.ten, decide_eq_false hl.1]
      by_cases g2 : p < s.size
      · rw [h.stop g2, decide_eq_false hl.1]
        simp
      · rw [decide_eq_false g2]
        simp
theorem pre_same' {m : Nat} {s s' : ByteArray} (h : Rel m s s') (l : List UInt8) (p : Nat) (hl : (l.all fun b => decide (b.toNat ≠ 10)) = true) (hp : p ≤ m) : Lib.hasPrefix (dropB s p).data.toList l = Lib.hasPrefix (dropB s' p).data.toList l := by
  rw [drop_list, drop_list]
  exact pre_same h l p hl hp
theorem sign_same {m : Nat} {s s' : ByteArray} (h : Rel m s s') (p : Nat) (hp : p ≤ m) : ∀ ls : List (List UInt8), (ls.all fun l => l.all fun b => decide (b.toNat ≠ 10)) = true → signK (dropB s p) ls = signK (dropB s' p) ls
  | [], _ => rfl
  | l :: ls, hl => by
    rw [List.all_cons, Bool.and_eq_true] at hl
    unfold signK
    rw [pre_same' h l p hl.1 hp, sign_same h p hp ls hl.2]
theorem remStop_at (s : ByteArray) (p i : Nat) : remStop (dropB s p) i = (decide ((Utf8.decode s (p + i)).1 = 10) || (decide ((Utf8.decode s (p + i)).1 = 65533) && !Lib.hasPrefix (dropB s (p + i)).data.toList [239, 191, 189])) := by
  unfold remStop
  rw [dec_drop]
  have : (dropB s p).extract i (dropB s p).size = dropB s (p + i) := drop_drop s p i
  rw [this]
theorem rem_same {m : Nat} {s s' : ByteArray} (h : Rel m s s') (p : Nat) (hp : p ≤ m) : ∀ f g i n, p + i ≤ m → s.size - p ≤ i + f → s'.size - p ≤ i + g → remK (dropB s p) f i n = remK (dropB s' p) g i n ∧ p + (remK (dropB s p) f i n).1 ≤ m := by
  intro f
  induction f with
  | zero =>
    intro g i n hi hf hg
    have hl := h.lt
    have hm := h.le
    have he : p + i = m := by omega
    obtain ⟨g, rfl⟩ : ∃ g', g = g' + 1 := ⟨g - 1, by omega⟩
    have hs : remStop (dropB s' p) i = true := by
      rw [remStop_at, he, h.dec_m.1]
      simp
    show ((dropB s p).size, n) = _ ∧ p + (dropB s p).size ≤ m
    unfold remK
    rw [dropB_size, dropB_size, if_pos (by omega), if_pos hs]
    refine ⟨by rw [show s.size - p = i by omega], by omega⟩
  | succ f ih =>
    intro g i n hi hf hg
    have hl := h.lt
    have hm := h.le
    obtain ⟨g, rfl⟩ : ∃ g', g = g' + 1 := ⟨g - 1, by omega⟩
    rcases Nat.lt_or_ge (p + i) m with hlt | hge
    · obtain ⟨e1, e2⟩ := h.dec hlt
      have hw := dec_pos s (p + i)
      have es : remStop (dropB s p) i = remStop (dropB s' p) i := by
        rw [remStop_at, remStop_at, e1, pre_same' h [239, 191, 189] (p + i) (by decide) hi]
      unfold remK
      rw [dropB_size, dropB_size, if_pos (show i < s.size - p by omega), if_pos (show i < s'.size - p by omega), es]
      by_cases hs : remStop (dropB s' p) i = true
      · rw [if_pos hs, if_pos hs]
        exact ⟨rfl, hi⟩
      · rw [if_neg hs, if_neg hs, dec_drop, dec_drop, ← e1]
        exact ih g _ _ (by omega) (by omega) (by omega)
    · have he : p + i = m := by omega
      have hs : remStop (dropB s' p) i = true := by
        rw [remStop_at, he, h.dec_m.1]
        simp
      unfold remK
      rw [dropB_size, dropB_size, if_pos (show i < s'.size - p by omega), if_pos hs]
      by_cases hlt : i < s.size - p
      · have hs2 : remStop (dropB s p) i = true := by
          rw [remStop_at, he, h.dec_m.2 (by omega)]
          simp
        rw [if_pos hlt, if_pos hs2]
        exact ⟨rfl, hi⟩
      · rw [if_neg hlt]
        exact ⟨by rw [show s.size - p = i by omega], by simp only []; omega⟩
theorem pre_far {m : Nat} {s s' : ByteArray} (h : Rel m s s') : ∀ (l : List UInt8) (p : Nat), (l.all fun b => decide (b.toNat ≠ 10)) = true → p ≤ m → l.isPrefixOf (s'.data.toList.drop p) = true → p + l.length ≤ m
  | [], p, _, hp, _ => hp
  | b :: r, p, hl, hp, hx => by
    rw [List.all_cons, Bool.and_eq_true, decide_eq_true_eq] at hl
    rw [pre_head, Bool.and_eq_true, Bool.and_eq_true, decide_eq_true_eq, decide_eq_true_eq] at hx
    have : p ≠ m := by
      intro e
      subst e
      rw [h.ten] at hx
      exact hl.1 hx.1.2
    have := pre_far h r (p + 1) hl.2 (by omega) hx.2
    rw [List.length_cons]
    omega
theorem sign_far {m : Nat} {s s' : ByteArray} (h : Rel m s s') (p : Nat) (hp : p ≤ m) : ∀ ls : List (List UInt8), (ls.all fun l => l.all fun b => decide (b.toNat ≠ 10)) = true → p + signK (dropB s' p) ls ≤ m
  | [], _ => hp
  | l :: ls, hl => by
    rw [List.all_cons, Bool.and_eq_true] at hl
    unfold signK
    split
    · rename_i hx
      have hx : l.isPrefixOf (dropB s' p).data.toList = true := hx
      rw [drop_list] at hx
      exact pre_far h l p hl.1 hp hx
    · exact sign_far h p hp ls hl.2
/-- The line of a byte. -/
def lineAt (s : ByteArray) : Nat → Nat
  | 0 => 1
  | p + 1 => lineAt s p + (if byteAt s p = 10 then 1 else 0)
theorem line_none (s : ByteArray) (p : Nat) : ∀ n, (∀ i, i < n → byteAt s (p + i) ≠ 10) → lineAt s (p + n) = lineAt s p
  | 0, _ => rfl
  | n + 1, h => by
    show lineAt s (p + n) + (if byteAt s (p + n) = 10 then 1 else 0) = _
    rw [if_neg (h n (Nat.lt_succ_self _)), Nat.add_zero, line_none s p n (fun i hi => h i (by omega))]
theorem dec_line (s : ByteArray) (p : Nat) (hd : (Utf8.decode s p).1 ≠ 10) : lineAt s (p + (Utf8.decode s p).2) = lineAt s p := by
  refine line_none s p _ ?_
  rw [dec_bytes] at hd ⊢
  unfold decB at hd ⊢
  intro i hi e
  have : i = 0 ∨ i = 1 ∨ i = 2 ∨ i = 3 ∨ 4 ≤ i := by omega
  rcases this with rfl | rfl | rfl | rfl | h4
  · rw [Nat.add_zero] at e
    rw [e] at hd
    simp at hd
  · rw [e] at hi
    simp at hi
    repeat' split at hi
    all_goals omega
  · rw [e] at hi
    simp at hi
    repeat' split at hi
    all_goals omega
  · rw [e] at hi
    simp at hi
    repeat' split at hi
    all_goals omega
  · repeat' split at hi
    all_goals (simp only [] at hi; omega)
theorem Adv.line {s : ByteArray} : ∀ {m p q : Nat}, Adv s m p q → lineAt s q = lineAt s p
  | 0, p, q, h => by
    have h : p = q := h
    rw [h]
  | m + 1, p, q, h => by
    obtain ⟨_, h2, h3⟩ := h
    rw [h3.line, dec_line s p h2]
/-- Between two tokens: both stop at the same place below m, or the first comes to m. -/
theorem bet_same {m : Nat} {s s' : ByteArray} (h : Rel m s s') : ∀ f g p l k, p ≤ m → s.size - p ≤ f → s'.size - p ≤ g → l = lineAt s p →
    (∃ p' l' k', p' < m ∧ p ≤ p' ∧ l' = lineAt s p' ∧ betK f (dropB s p) l k = (dropB s p', l', k') ∧ betK g (dropB s' p) l k = (dropB s' p', l', k')) ∨ (m = s.size ∧ (betK f (dropB s p) l k).1 = dropB s m) ∨ (m < s.size ∧ lineAt s m + 1 ≤ (betK f (dropB s p) l k).2.1) := by
  have hup : ∀ f (t : ByteArray) l k, l ≤ (betK f t l k).2.1 := by
    intro f
    induction f with
    | zero => intro t l k; exact Nat.le_refl _
    | succ f ih =>
      intro t l k
      unfold betK
      repeat' split
      all_goals first | exact Nat.le_refl _ | exact Nat.le_trans (Nat.le_succ _) (ih _ _ _) | exact ih _ _ _
  intro f
  induction f with
  | zero =>
    intro g p l k hp hf hg hl
    have hm := h.le
    refine Or.inr (Or.inl ⟨by omega, ?_⟩)
    show dropB s p = _
    rw [show p = m by omega]
  | succ f ih =>
    intro g p l k hp hf hg hl
    have hm := h.le
    have hlt := h.lt
    rcases Nat.lt_or_ge p m with hpm | hpm
    · obtain ⟨g, rfl⟩ : ∃ g', g = g' + 1 := ⟨g - 1, by omega⟩
      have eb := h.same p hpm
      have er := rem_same h p hp (dropB s p).size (dropB s' p).size 0 0 hp (by rw [dropB_size]; omega) (by rw [dropB_size]; omega)
      have er : remA (dropB s p) = remA (dropB s' p) ∧ p + (remA (dropB s p)).1 ≤ m := er
      have ea := (rem_adv s p (by omega) (dropB s p).size 0 0 (Nat.zero_le _) (by rw [dropB_size]; omega)).2
      have ea : Adv s (remA (dropB s p)).2 p (p + (remA (dropB s p)).1) := ea
      unfold betK
      rw [dropB_size, dropB_size, at0_drop, at0_drop, ← eb, ← pre_same' h [47, 47] p (by decide) hp, ← er.1]
      rw [if_neg (show ¬ s.size - p = 0 by omega), if_neg (show ¬ s'.size - p = 0 by omega)]
      by_cases h1 : byteAt s p = 10
      · rw [if_pos h1, if_pos h1, drop_drop, drop_drop]
        have := ih g (p + 1) (l + 1) 1 hpm (by omega) (by omega) (by show _ = lineAt s p + _; rw [if_pos h1, hl])
        rcases this with ⟨p', l', k', a, b, c⟩ | c
        · exact Or.inl ⟨p', l', k', a, by omega, c⟩
        · exact Or.inr c
      rw [if_neg h1, if_neg h1]
      by_cases h2 : byteAt s p = 32 ∨ byteAt s p = 9 ∨ byteAt s p = 13
      · rw [if_pos h2, if_pos h2, drop_drop, drop_drop]
        have := ih g (p + 1) l (k + 1) hpm (by omega) (by omega) (by show _ = lineAt s p + _; rw [if_neg h1, hl]; rfl)
        rcases this with ⟨p', l', k', a, b, c⟩ | c
        · exact Or.inl ⟨p', l', k', a, by omega, c⟩
        · exact Or.inr c
      rw [if_neg h2, if_neg h2]
      by_cases h3 : Lib.hasPrefix (dropB s p).data.toList [47, 47] = true
      · rw [if_pos h3, if_pos h3, drop_drop, drop_drop]
        have h0 : 0 < (remA (dropB s p)).1 := by
          have hx : [47, 47].isPrefixOf (dropB s p).data.toList = true := h3
          rw [drop_list, pre_head, Bool.and_eq_true, Bool.and_eq_true, decide_eq_true_eq, decide_eq_true_eq] at hx
          have hb : byteAt s p = 47 := hx.1.2.symm
          have hd := dec_ascii' s p (by omega)
          have e : (dropB s p).size = (s.size - p - 1) + 1 := by rw [dropB_size]; omega
          have hr : remStop (dropB s p) 0 = false := by
            rw [remStop_at, Nat.add_zero, hd, hb]
            rfl
          have h2 := rem_adv s p (by omega) (s.size - p - 1) 1 1 (by omega) (by omega)
          unfold remA
          rw [e]
          unfold remK
          rw [dropB_size, if_pos (show 0 < s.size - p by omega), if_neg (by rw [hr]; exact Bool.false_ne_true), dec_drop, Nat.add_zero, hd]
          show 0 < (remK (dropB s p) (s.size - p - 1) 1 1).1
          have := (h2.2.le (by omega)).2
          omega
        have := ih g (p + (remA (dropB s p)).1) l (k + (remA (dropB s p)).2) er.2 (by omega) (by omega) (by rw [ea.line, hl])
        rcases this with ⟨p', l', k', a, b, c⟩ | c
        · exact Or.inl ⟨p', l', k', a, by omega, c⟩
        · exact Or.inr c
      · rw [if_neg h3, if_neg h3]
        exact Or.inl ⟨p, l, k, hpm, Nat.le_refl _, hl, rfl, rfl⟩
    · obtain rfl : p = m := by omega
      refine Or.inr ?_
      by_cases hs : p < s.size
      · refine Or.inr ⟨hs, ?_⟩
        unfold betK
        rw [dropB_size, at0_drop, if_neg (by omega), if_pos (h.stop hs), ← hl]
        exact hup _ _ _ _
      · refine Or.inl ⟨by omega, ?_⟩
        unfold betK
        rw [dropB_size, if_pos (by omega)]
/-- How two tokens' answers agree: the fault; and where there is none, and it is not the end, what is left. -/
def TokSame (m : Nat) (s s' : ByteArray) (p : Nat) (r r' : TR) : Prop :=
  r.flt = r'.flt ∧ (r.flt.code = 0 → r.tok.kind ≠ 5 ∧ r'.tok.kind ≠ 5 ∧ ∃ n, p + n ≤ m ∧ r.rest = dropB s (p + n) ∧ r'.rest = dropB s' (p + n) ∧ r.col = r'.col)
theorem letter_same {m : Nat} {s s' : ByteArray} (h : Rel m s s') (q : Nat) (hq : q ≤ m) : letterB (Lib.decodeGo (dropB s q)).1 = letterB (Lib.decodeGo (dropB s' q)).1 := by
  have hm := h.le
  have hl := h.lt
  unfold Lib.decodeGo
  rw [dropB_size, dropB_size, dec_drop, dec_drop, Nat.add_zero, if_neg (show ¬ s'.size - q = 0 by omega)]
  rcases Nat.lt_or_ge q m with g | g
  · rw [if_neg (by omega), (h.dec g).1]
  · obtain rfl : q = m := by omega
    rw [h.dec_m.1]
    by_cases hs : q < s.size
    · rw [if_neg (by omega), h.dec_m.2 hs]
    · rw [if_pos (by omega)]
      rfl
theorem num_same {m : Nat} {s s' : ByteArray} (h : Rel m s s') (p l k a base : Nat) (hb : base ≤ 16) (hp : p + a ≤ m) : TokSame m s s' p (numK (dropB s p) l k a base) (numK (dropB s' p) l k a base) := by
  have hd := dig_same h base (p + a) hb hp (dropB s (p + a)).size (dropB s' (p + a)).size 0 0 true hp (by rw [dropB_size]; omega) (by rw [dropB_size]; omega)
  have hd : digA (dropB s (p + a)) base = digA (dropB s' (p + a)) base ∧ p + a + (digA (dropB s (p + a)) base).1 ≤ m := hd
  unfold numK
  rw [drop_drop, drop_drop, ← hd.1]
  have hle := hd.2
  generalize digA (dropB s (p + a)) base = g at hle
  unfold numG
  rw [drop_drop, drop_drop, ← letter_same h (p + (a + g.1)) (by omega)]
  by_cases h1 : g.1 = 0
  · rw [if_pos h1, if_pos h1]
    exact ⟨rfl, fun e => absurd e (by show ¬ (20 : Nat) = 0; decide)⟩
  rw [if_neg h1, if_neg h1]
  by_cases h2 : g.2.2 = false
  · rw [if_pos h2, if_pos h2]
    exact ⟨rfl, fun e => absurd e (by show ¬ (20 : Nat) = 0; decide)⟩
  rw [if_neg h2, if_neg h2]
  by_cases h3 : letterB (Lib.decodeGo (dropB s (p + (a + g.1)))).1 = true
  · rw [if_pos h3, if_pos h3]
    exact ⟨rfl, fun e => absurd e (by show ¬ (20 : Nat) = 0; decide)⟩
  rw [if_neg h3, if_neg h3]
  exact ⟨rfl, fun _ => ⟨by show (2 : Nat) ≠ 5; decide, by show (2 : Nat) ≠ 5; decide, a + g.1, by omega, rfl, rfl, rfl⟩⟩
theorem tok_same {m : Nat} {s s' : ByteArray} (h : Rel m s s') (p l k : Nat) (hp : p < m) : TokSame m s s' p (tokR (dropB s p) l k) (tokR (dropB s' p) l k) := by
  have hm := h.le
  have hl := h.lt
  have hn := name_same h p (by omega) (dropB s p).size (dropB s' p).size 0 0 (by omega) (by rw [dropB_size]; omega) (by rw [dropB_size]; omega)
  have hn : nameA (dropB s p) = nameA (dropB s' p) ∧ p + (nameA (dropB s p)).1 ≤ m := hn
  have hs : signA (dropB s p) = signA (dropB s' p) := sign_same h p (by omega) signsL (by decide)
  have hf : p + signA (dropB s' p) ≤ m := sign_far h p (by omega) signsL (by decide)
  have hx1 := pre_same' h [48, 120] p (by decide) (by omega)
  have hx2 := pre_same' h [48, 88] p (by decide) (by omega)
  unfold tokR
  rw [← hn.1, ← hs, dropB_size, dropB_size, at0_drop, at0_drop, ← h.same p hp, if_neg (show ¬ s.size - p = 0 by omega), if_neg (show ¬ s'.size - p = 0 by omega)]
  rw [← hs] at hf
  have hnl := hn.2
  generalize nameA (dropB s p) = N at hnl
  generalize signA (dropB s p) = S at hf
  by_cases h1 : 0 < N.1
  · rw [if_pos h1, if_pos h1]
    refine ⟨rfl, fun _ => ⟨?_, ?_, N.1, hnl, drop_drop s p _, drop_drop s' p _, rfl⟩⟩
    · simp only []
      split <;> decide
    · simp only []
      split <;> decide
  rw [if_neg h1, if_neg h1]
  by_cases h2 : 0 < S
  · rw [if_pos h2, if_pos h2]
    exact ⟨rfl, fun _ => ⟨by show (4 : Nat) ≠ 5; decide, by show (4 : Nat) ≠ 5; decide, S, hf, drop_drop s p _, drop_drop s' p _, rfl⟩⟩
  rw [if_neg h2, if_neg h2]
  by_cases h3 : digitB (byteAt s p) = true
  · rw [if_pos h3, if_pos h3]
    unfold numR hexB
    rw [hx1, hx2]
    by_cases h4 : (Lib.hasPrefix (dropB s' p).data.toList [48, 120] || Lib.hasPrefix (dropB s' p).data.toList [48, 88]) = true
    · rw [if_pos h4, if_pos h4]
      refine num_same h p l k 2 16 (by decide) ?_
      rw [Bool.or_eq_true] at h4
      rcases h4 with h4 | h4
      · have hx : [48, 120].isPrefixOf (dropB s' p).data.toList = true := h4
        rw [drop_list] at hx
        exact pre_far h [48, 120] p (by decide) (by omega) hx
      · have hx : [48, 88].isPrefixOf (dropB s' p).data.toList = true := h4
        rw [drop_list] at hx
        exact pre_far h [48, 88] p (by decide) (by omega) hx
    · rw [if_neg h4, if_neg h4]
      exact num_same h p l k 0 10 (by decide) (by omega)
  · rw [if_neg h3, if_neg h3]
    exact ⟨rfl, fun e => absurd e (by show ¬ (20 : Nat) = 0; decide)⟩
theorem betK_line : ∀ f (t : ByteArray) l k, l ≤ (betK f t l k).2.1 := by
  intro f
  induction f with
  | zero => intro t l k; exact Nat.le_refl _
  | succ f ih =>
    intro t l k
    unfold betK
    repeat' split
    all_goals first | exact Nat.le_refl _ | exact Nat.le_trans (Nat.le_succ _) (ih _ _ _) | exact ih _ _ _
theorem tokR_line (t : ByteArray) (l k : Nat) : (tokR t l k).flt.code = 0 ∨ (tokR t l k).flt.line = l := by
  unfold tokR numR numK numG
  repeat' split
  all_goals first | exact Or.inl rfl | exact Or.inr rfl
theorem lexK_line : ∀ f (t : ByteArray) l k acc e, lexK f t l k acc = .error e → l ≤ e.line := by
  intro f
  induction f with
  | zero => intro t l k acc e h; exact absurd h (by simp [lexK])
  | succ f ih =>
    intro t l k acc e h
    unfold lexK at h
    have hb := betK_line t.size t l k
    change l ≤ (betA t l k).2.1 at hb
    split at h
    · rename_i hc
      have ht := tokR_line (betA t l k).1 (betA t l k).2.1 (betA t l k).2.2
      cases h
      rcases ht with ht | ht
      · exact absurd ht hc
      · omega
    · split at h
      · exact absurd h (by simp)
      · exact Nat.le_trans hb (ih _ _ _ _ _ h)
/-- A fault on the line that ends at m is the same whatever stands behind. -/
theorem lex_same {m : Nat} {s s' : ByteArray} (h : Rel m s s') : ∀ f g p l k acc acc' e, p ≤ m → l = lineAt s p → s.size - p < f → s'.size - p < g → (m < s.size → e.line ≤ lineAt s m) → lexK f (dropB s p) l k acc = .error e → lexK g (dropB s' p) l k acc' = .error e := by
  intro f
  induction f with
  | zero => intro g p l k acc acc' e _ _ hf; exact absurd hf (Nat.not_lt_zero _)
  | succ f ih =>
    intro g p l k acc acc' e hp hl hf hg he hx
    have hm := h.le
    have hlt := h.lt
    obtain ⟨g, rfl⟩ : ∃ g', g = g' + 1 := ⟨g - 1, by omega⟩
    have hb := bet_same h (dropB s p).size (dropB s' p).size p l k hp (by rw [dropB_size]; omega) (by rw [dropB_size]; omega) hl
    rcases hb with ⟨p', l', k', a1, a2, a3, a4, a5⟩ | ⟨a1, a2⟩ | ⟨a1, a2⟩
    · have a4 : betA (dropB s p) l k = (dropB s p', l', k') := a4
      have a5 : betA (dropB s' p) l k = (dropB s' p', l', k') := a5
      unfold lexK at hx ⊢
      rw [a4] at hx
      rw [a5]
      simp only [] at hx ⊢
      obtain ⟨t1, t2⟩ := tok_same h p' l' k' a1
      have tl := fun (e : (tokR (dropB s p') l' k').flt.code = 0) => tok_stands s p' l' k' (by omega) e
      generalize tokR (dropB s p') l' k' = r at hx t1 t2 tl
      generalize tokR (dropB s' p') l' k' = r' at t1 t2 ⊢
      rw [← t1]
      by_cases hc : r.flt.code ≠ 0
      · rw [if_pos hc] at hx ⊢
        cases hx
        rfl
      · rw [if_neg hc] at hx ⊢
        have hc0 : r.flt.code = 0 := by omega
        obtain ⟨k1, k2, n, n1, n2, n3, n4⟩ := t2 hc0
        obtain ⟨n', m', u1, u2, u3, u4, u5, u6, u7, u8, u9⟩ := tl hc0
        rw [if_neg k1] at hx
        rw [if_neg k2, n3, ← n4]
        have hn0 : n' ≠ 0 := fun e => k1 (u8.1 e)
        have hnn : n = n' := by
          have e1 : (dropB s (p' + n)).size = (dropB s (p' + n')).size := by rw [← n2, ← u5]
          rw [dropB_size, dropB_size] at e1
          omega
        subst hnn
        rw [n2] at hx
        clear t2 tl k1 k2 u8
        exact ih g (p' + n) l' _ _ _ e n1 (by rw [a3, u7.line]) (by omega) (by omega) he hx
    · exfalso
      have a2 : (betA (dropB s p) l k).1 = dropB s m := a2
      unfold lexK at hx
      rw [a2] at hx
      have hz : tokR (dropB s m) (betA (dropB s p) l k).2.1 (betA (dropB s p) l k).2.2 = ⟨⟨5, (dropB s m).extract 0 0, 0, (betA (dropB s p) l k).2.1, (betA (dropB s p) l k).2.2⟩, noFlt, dropB (dropB s m) 0, (betA (dropB s p) l k).2.2 + 0⟩ := by
        unfold tokR
        rw [if_pos (by rw [dropB_size]; omega)]
      rw [hz] at hx
      rw [if_neg (by show ¬ (0 : Nat) ≠ 0; decide), if_pos rfl] at hx
      exact absurd hx (by simp)
    · exfalso
      have a2 : lineAt s m + 1 ≤ (betA (dropB s p) l k).2.1 := a2
      have : (betA (dropB s p) l k).2.1 ≤ e.line := by
        unfold lexK at hx
        generalize (betA (dropB s p) l k).1 = t at hx
        generalize (betA (dropB s p) l k).2.1 = l1 at hx ⊢
        generalize (betA (dropB s p) l k).2.2 = k1 at hx
        have ht := tokR_line t l1 k1
        split at hx
        · rename_i hc
          cases hx
          rcases ht with ht | ht
          · exact absurd ht hc
          · omega
        · split at hx
          · exact absurd hx (by simp)
          · exact lexK_line _ _ _ _ _ _ hx
      have := he a1
      omega
end Go.Proofs.YtkgppagpjbkhmaaDoor
