/- What lexA answers at texts joined out of tokens. -/
import Derived.Test.YtkgppagpjbkhmaaDoorLxJoin
namespace Go.Proofs.YtkgppagpjbkhmaaDoor
open Go.RowKit Go.Shelf

theorem like_off {s s' : ByteArray} {p p' n : Nat} (h : Like s p s' p' n) (a : Nat) (ha : a ≤ n) : Like s (p + a) s' (p' + a) (n - a) :=
  ⟨by have := h.le; omega, by have := h.lt; omega, by rw [show p' + a + (n - a) = p' + n by omega]; exact h.stop, fun i hi => by rw [Nat.add_assoc, Nat.add_assoc]; exact h.same (a + i) (by omega)⟩
theorem num_like {s s' : ByteArray} {p p' n : Nat} (h : Like s p s' p' n) (l k l' k' a base : Nat) (hb : base ≤ 16) (ha : Adv s a p (p + a)) (r : TR) (hr : numK (dropB s p) l k a base = r) (hc : r.flt.code = 0) (hn : r.tok.text.size = n) :
    a ≤ n ∧ ∃ c, numK (dropB s' p') l' k' a base = ⟨⟨r.tok.kind, r.tok.text, r.tok.val, l', k'⟩, noFlt, dropB s' (p' + n), c⟩ := by
  have hle := h.le
  have hlt := h.lt
  have hal := (ha.le (by omega)).1
  unfold numK at hr ⊢
  rw [drop_drop] at hr ⊢
  have hda := (dig_adv s (p + a) base hb hal (dropB s (p + a)).size 0 0 true (Nat.zero_le _) (by rw [dropB_size]; omega)).2
  have hda : Adv s (digA (dropB s (p + a)) base).1 (p + a) (p + a + (digA (dropB s (p + a)) base).1) := hda
  have hgl := (hda.le hal).1
  generalize hg : digA (dropB s (p + a)) base = g at hr hgl
  unfold numG at hr
  by_cases h1 : g.1 = 0
  · rw [if_pos h1] at hr; subst hr; exact absurd hc (by show ¬ (20 : Nat) = 0; decide)
  rw [if_neg h1] at hr
  by_cases h2 : g.2.2 = false
  · rw [if_pos h2] at hr; subst hr; exact absurd hc (by show ¬ (20 : Nat) = 0; decide)
  rw [if_neg h2] at hr
  by_cases h3 : letterB (Lib.decodeGo (dropB (dropB s p) (a + g.1))).1 = true
  · rw [if_pos h3] at hr; subst hr; exact absurd hc (by show ¬ (20 : Nat) = 0; decide)
  rw [if_neg h3] at hr
  subst hr
  have hn : ((dropB s p).extract 0 (a + g.1)).size = n := hn
  rw [cut_cut s p _ (by omega), cut_size s p _ (by omega)] at hn
  have hd : digA (dropB s' (p' + a)) base = g := by
    have := dig_like (like_off h a (by omega)) base hb (dropB s (p + a)).size (dropB s' (p' + a)).size 0 0 true (Nat.zero_le _) (by rw [dropB_size]; omega) (by rw [dropB_size]; omega) (by show (digA (dropB s (p + a)) base).1 = n - a; rw [hg]; omega)
    exact this.trans hg
  refine ⟨by omega, k' + (a + g.1), ?_⟩
  rw [hd]
  unfold numG
  have h3' : ¬ letterB (Lib.decodeGo (dropB (dropB s' p') (a + g.1))).1 = true := by
    rw [drop_drop, hn]
    unfold Lib.decodeGo
    rw [dropB_size, if_neg (show ¬ s'.size - (p' + n) = 0 by omega), dec_drop, Nat.add_zero]
    rcases h.dec_n with e | e <;> rw [e] <;> decide
  rw [if_neg h1, if_neg h2, if_neg h3', drop_drop, hn, cut_cut s' p' n (by omega), cut_cut s p n (by omega), text_like h]
theorem name_zero (s : ByteArray) (p : Nat) (hp : p < s.size) (h : byteAt s p < 128) (hl : letterB (byteAt s p) = false) : (nameA (dropB s p)).1 = 0 := by
  have e : (dropB s p).size = (s.size - p - 1) + 1 := by rw [dropB_size]; omega
  have hs : nameStop (dropB s p) 0 = true := by
    unfold nameStop
    rw [dec_drop, Nat.add_zero, dec_ascii' s p h, hl]
    rfl
  unfold nameA
  rw [e]
  unfold nameK
  rw [dropB_size, if_pos (by omega), if_pos hs]
theorem name_first (s : ByteArray) (p : Nat) (hp : p < s.size) (h : 0 < (nameA (dropB s p)).1) (hb : byteAt s p < 128) : letterB (byteAt s p) = true := by
  by_cases hl : letterB (byteAt s p) = true
  · exact hl
  · rw [Bool.not_eq_true] at hl
    rw [name_zero s p hp hb hl] at h
    omega
def okHead (l : List UInt8) : Bool := match l with
  | [] => true
  | b :: _ => decide (b.toNat < 128) && decide (b.toNat ≠ 10) && decide (b.toNat ≠ 32) && decide (b.toNat ≠ 9) && decide (b.toNat ≠ 13) && decide (b.toNat ≠ 47) && !letterB b.toNat
theorem sign_first (s : ByteArray) (p : Nat) : ∀ ls : List (List UInt8), (ls.all okHead) = true → 0 < signK (dropB s p) ls → byteAt s p < 128 ∧ (byteAt s p ≠ 10 ∧ byteAt s p ≠ 32 ∧ byteAt s p ≠ 9 ∧ byteAt s p ≠ 13 ∧ byteAt s p ≠ 47) ∧ letterB (byteAt s p) = false
  | [], _, h => absurd h (Nat.lt_irrefl _)
  | l :: ls, hl, h => by
    rw [List.all_cons, Bool.and_eq_true] at hl
    unfold signK at h
    by_cases h1 : Lib.hasPrefix (dropB s p).data.toList l = true
    · rw [if_pos h1] at h
      have hx : l.isPrefixOf (dropB s p).data.toList = true := h1
      rw [drop_list] at hx
      cases l with
      | nil => exact absurd h (Nat.lt_irrefl _)
      | cons b r =>
        rw [pre_head, Bool.and_eq_true, Bool.and_eq_true, decide_eq_true_eq, decide_eq_true_eq] at hx
        have hq := hl.1
        unfold okHead at hq
        simp only [Bool.and_eq_true, decide_eq_true_eq, Bool.not_eq_true'] at hq
        rw [hx.1.2] at hq
        exact ⟨hq.1.1.1.1.1.1, ⟨hq.1.1.1.1.1.2, hq.1.1.1.1.2, hq.1.1.1.2, hq.1.1.2, hq.1.2⟩, hq.2⟩
    · rw [if_neg h1] at h
      exact sign_first s p ls hl.2 h
theorem tok_like {s s' : ByteArray} {p p' n : Nat} (h : Like s p s' p' n) (l k l' k' : Nat) (r : TR) (hr : tokR (dropB s p) l k = r) (hc : r.flt.code = 0) (hk : r.tok.kind ≠ 5) (hn : r.tok.text.size = n) :
    0 < n ∧ (byteAt s p ≠ 10 ∧ byteAt s p ≠ 32 ∧ byteAt s p ≠ 9 ∧ byteAt s p ≠ 13 ∧ byteAt s p ≠ 47) ∧ ∃ c, tokR (dropB s' p') l' k' = ⟨⟨r.tok.kind, r.tok.text, r.tok.val, l', k'⟩, noFlt, dropB s' (p' + n), c⟩ := by
  have hle := h.le
  have hlt := h.lt
  have h0 : 0 < n := by
    have := tok_stands s p l k (by omega) (by rw [hr]; exact hc)
    rw [hr] at this
    obtain ⟨n0, m0, t1, t2, _, _, _, _, _, t8, _⟩ := this
    rw [t2, cut_size s p n0 t1] at hn
    have : n0 ≠ 0 := fun e => hk (t8.1 e)
    omega
  have hb0 := h.same 0 h0
  rw [Nat.add_zero, Nat.add_zero] at hb0
  unfold tokR at hr ⊢
  rw [dropB_size, if_neg (by omega), at0_drop] at hr
  rw [dropB_size, if_neg (by omega), at0_drop, ← hb0]
  refine ⟨h0, ?_⟩
  by_cases h1 : 0 < (nameA (dropB s p)).1
  · rw [if_pos h1] at hr
    subst hr
    have hN := nameA_le (dropB s p)
    rw [dropB_size] at hN
    have hn : ((dropB s p).extract 0 (nameA (dropB s p)).1).size = n := hn
    rw [cut_cut s p _ (by omega), cut_size s p _ (by omega)] at hn
    have hn' : (nameA (dropB s' p')).1 = n := name_like h (dropB s p).size (dropB s' p').size 0 0 0 (Nat.zero_le _) (by rw [dropB_size]; omega) (by rw [dropB_size]; omega) hn
    refine ⟨?_, k' + (nameA (dropB s' p')).2, ?_⟩
    · have := name_first s p (by omega) h1
      refine ⟨?_, ?_, ?_, ?_, ?_⟩ <;> (intro e; rw [e] at this; exact absurd (this (by decide)) (by decide))
    · rw [hn', hn, if_pos h0, drop_drop, cut_cut s' p' n (by omega), cut_cut s p n (by omega), text_like h]
  rw [if_neg h1] at hr
  by_cases h2 : 0 < signA (dropB s p)
  · rw [if_pos h2] at hr
    subst hr
    have hS := signA_le (dropB s p)
    rw [dropB_size] at hS
    have hn : ((dropB s p).extract 0 (signA (dropB s p))).size = n := hn
    rw [cut_cut s p _ (by omega), cut_size s p _ (by omega)] at hn
    have hs' : signA (dropB s' p') = signA (dropB s p) := sign_like h signsL (by decide) (by change signA (dropB s p) ≤ n; omega)
    obtain ⟨f1, f2, f3⟩ := sign_first s p signsL (by decide) h2
    have hz := name_zero s' p' (by omega) (by omega) (by rw [← hb0]; exact f3)
    refine ⟨f2, k' + n, ?_⟩
    rw [hz, if_neg (Nat.lt_irrefl _), hs', hn, if_pos h0, drop_drop, cut_cut s' p' n (by omega), cut_cut s p n (by omega), text_like h]
  rw [if_neg h2] at hr
  have hs0 : signA (dropB s p) = 0 := by omega
  have hs' : signA (dropB s' p') = 0 := by
    have := sign_like h signsL (by decide) (by change signA (dropB s p) ≤ n; omega)
    exact this.trans hs0
  by_cases h3 : digitB (byteAt s p) = true
  · rw [if_pos h3] at hr
    have hd := digitB_iff.1 h3
    have hz := name_zero s' p' (by omega) (by omega) (by rw [← hb0]; simp only [letterB, Bool.or_eq_false_iff, Bool.and_eq_false_iff, decide_eq_false_iff_not]; omega)
    refine ⟨by omega, ?_⟩
    rw [hz, if_neg (Nat.lt_irrefl _), hs', if_neg (Nat.lt_irrefl _), if_pos h3]
    unfold numR at hr ⊢
    have e1 := pre_like' h [48, 120] (by decide)
    have e2 := pre_like' h [48, 88] (by decide)
    unfold hexB at hr ⊢
    by_cases hx : (Lib.hasPrefix (dropB s p).data.toList [48, 120] || Lib.hasPrefix (dropB s p).data.toList [48, 88]) = true
    · rw [if_pos hx] at hr
      have ha : Adv s 2 p (p + 2) := by
        rw [Bool.or_eq_true] at hx
        rcases hx with hx | hx
        · exact pre_adv' s p [48, 120] (by decide) hx
        · exact pre_adv' s p [48, 88] (by decide) hx
      obtain ⟨g1, g2⟩ := num_like h l k l' k' 2 16 (by decide) ha r hr hc hn
      rw [e1, e2, show ([48, 120] : List UInt8).length = 2 from rfl, show ([48, 88] : List UInt8).length = 2 from rfl, decide_eq_true g1, Bool.and_true, Bool.and_true, if_pos hx]
      exact g2
    · rw [if_neg hx] at hr
      obtain ⟨_, g2⟩ := num_like h l k l' k' 0 10 (by decide) rfl r hr hc hn
      rw [Bool.or_eq_true, not_or, Bool.not_eq_true, Bool.not_eq_true] at hx
      rw [e1, e2, hx.1, hx.2, Bool.false_and, Bool.false_and, Bool.or_false, if_neg Bool.false_ne_true]
      exact g2
  · rw [if_neg h3] at hr
    subst hr
    exact absurd hc (by show ¬ (20 : Nat) = 0; decide)
/-- A token that some text has. -/
def Good (t : Tok) : Prop := ∃ s p l k, p + t.text.size ≤ s.size ∧ (tokR (dropB s p) l k).flt.code = 0 ∧ (tokR (dropB s p) l k).tok = t ∧ t.kind ≠ 5 ∧ t.text = s.extract p (p + t.text.size)
def EndT (t : Tok) : Prop := t.kind = 5 ∧ t.text = ⟨#[]⟩ ∧ t.val = 0
theorem cut_none (s : ByteArray) : s.extract 0 0 = ⟨#[]⟩ := by
  apply ByteArray.ext
  rw [ByteArray.data_extract]
  simp
theorem tok_end (t : ByteArray) (l k : Nat) (h : (tokR t l k).tok.kind = 5) : EndT (tokR t l k).tok := by
  unfold tokR at h ⊢
  by_cases h0 : t.size = 0
  · rw [if_pos h0]
    exact ⟨rfl, cut_none t, rfl⟩
  rw [if_neg h0] at h ⊢
  exfalso
  by_cases h1 : 0 < (nameA t).1
  · rw [if_pos h1] at h
    simp only [] at h
    split at h <;> omega
  rw [if_neg h1] at h
  by_cases h2 : 0 < signA t
  · rw [if_pos h2] at h
    exact absurd h (by show ¬ (4 : Nat) = 5; decide)
  rw [if_neg h2] at h
  by_cases h3 : digitB (at0 t) = true
  · rw [if_pos h3] at h
    unfold numR numK numG at h
    repeat' split at h
    all_goals exact absurd h (by first | (show ¬ (0 : Nat) = 5; decide) | (show ¬ (2 : Nat) = 5; decide))
  · rw [if_neg h3] at h
    exact absurd h (by show ¬ (0 : Nat) = 5; decide)
theorem lex_good (s : ByteArray) : ∀ f j p l k acc toks, Bnd s j p l k → s.size - p < f → lexK f (dropB s p) l k acc = .ok toks → ∃ ts e, toks = acc ++ (ts ++ [e]) ∧ (∀ t ∈ ts, Good t) ∧ EndT e := by
  intro f
  induction f with
  | zero => intro j p l k acc toks _ hf _; exact absurd hf (Nat.not_lt_zero _)
  | succ f ih =>
    intro j p l k acc toks hB hf h
    obtain ⟨j', p', a, b, c, d⟩ := bet_bnd s (dropB s p).size j p l k hB
    have c : (betA (dropB s p) l k).1 = dropB s p' := c
    have d : Bnd s j' p' (betA (dropB s p) l k).2.1 (betA (dropB s p) l k).2.2 := d
    unfold lexK at h
    rw [c] at h
    generalize (betA (dropB s p) l k).2.1 = l' at h d
    generalize (betA (dropB s p) l k).2.2 = k' at h d
    by_cases h1 : (tokR (dropB s p') l' k').flt.code ≠ 0
    · rw [if_pos h1] at h; exact absurd h (by simp)
    rw [if_neg h1] at h
    have h1 : (tokR (dropB s p') l' k').flt.code = 0 := by omega
    obtain ⟨n, m, t1, t2, t3, t4, t5, t6, t7, t8, t9⟩ := tok_stands s p' l' k' d.1 h1
    have hsz : (tokR (dropB s p') l' k').tok.text.size = n := by rw [t2]; exact cut_size s p' n t1
    by_cases h2 : (tokR (dropB s p') l' k').tok.kind = 5
    · rw [if_pos h2] at h
      have h := Except.ok.inj h
      exact ⟨[], _, h.symm, fun t ht => absurd ht (by simp), tok_end _ _ _ h2⟩
    · rw [if_neg h2] at h
      have hn0 : n ≠ 0 := fun e => h2 (t8.1 e)
      have hG : Good (tokR (dropB s p') l' k').tok := ⟨s, p', l', k', by omega, h1, rfl, h2, by rw [hsz]; exact t2⟩
      generalize (tokR (dropB s p') l' k').tok = tk at h hG
      rw [t5, t6] at h
      obtain ⟨ts, e, e1, e2, e3⟩ := ih (j' + m) (p' + n) l' (k' + m) _ toks (d.adv t7) (by omega) h
      refine ⟨tk :: ts, e, by rw [e1, List.append_assoc]; rfl, ?_, e3⟩
      intro t ht
      rcases List.mem_cons.1 ht with rfl | ht
      · exact hG
      · exact e2 t ht
/-- How the tokens of the joined text agree with those that it was joined of. -/
def Ali (lines : Bool) : Nat → List Tok → List Tok → Prop
  | _, [], [] => True
  | L, x :: xs, y :: ys => (y.kind = x.kind ∧ y.text = x.text ∧ y.val = x.val ∧ (lines = true → y.line = L ∧ y.col = 1)) ∧ Ali lines (L + 1) xs ys
  | _, _, _ => False
theorem Ali.len {lines : Bool} : ∀ {L : Nat} {xs ys : List Tok}, Ali lines L xs ys → ys.length = xs.length
  | _, [], [], _ => rfl
  | _, [], _ :: _, h => False.elim h
  | _, _ :: _, [], h => False.elim h
  | _, _ :: _, _ :: _, h => by rw [List.length_cons, List.length_cons, h.2.len]
theorem Ali.get {lines : Bool} : ∀ {L : Nat} {xs ys : List Tok}, Ali lines L xs ys → ∀ (i : Nat) (x : Tok), xs[i]? = some x → ∃ y, ys[i]? = some y ∧ y.kind = x.kind ∧ y.text = x.text ∧ y.val = x.val ∧ (lines = true → y.line = L + i ∧ y.col = 1)
  | _, [], [], _, i, x, h => absurd h (by simp)
  | _, [], _ :: _, h, _, _, _ => False.elim h
  | _, _ :: _, [], h, _, _, _ => False.elim h
  | L, a :: xs, b :: ys, h, i, x, hx => by
    cases i with
    | zero =>
      have : a = x := Option.some.inj hx
      subst this
      exact ⟨b, rfl, h.1⟩
    | succ i =>
      obtain ⟨y, h1, h2, h3, h4, h5⟩ := h.2.get i x hx
      exact ⟨y, h1, h2, h3, h4, fun e => ⟨by rw [(h5 e).1]; omega, (h5 e).2⟩⟩
/-- A text that is joined out of tokens, from a place on. -/
def Joined (s : ByteArray) (sep : List UInt8) : List Tok → Nat → Prop
  | [], p => p = s.size
  | t :: ts, p => (∀ i, i < t.text.size → byteAt s (p + i) = byteAt t.text i) ∧ sep.isPrefixOf (s.data.toList.drop (p + t.text.size)) = true ∧ Joined s sep ts (p + t.text.size + sep.length)
def joinL (sep : List UInt8) (ts : List Tok) : List UInt8 := ts.flatMap fun t => t.text.data.toList ++ sep
theorem text_len (t : ByteArray) : t.data.toList.length = t.size := by rw [Array.length_toList]; rfl
theorem joined_of (sep : List UInt8) : ∀ (ts : List Tok) (pre : List UInt8), Joined ⟨(pre ++ joinL sep ts).toArray⟩ sep ts pre.length
  | [], pre => by
    show pre.length = (pre ++ joinL sep []).toArray.size
    simp [joinL]
  | t :: ts, pre => by
    have e : pre ++ joinL sep (t :: ts) = (pre ++ t.text.data.toList ++ sep) ++ joinL sep ts := by
      unfold joinL
      rw [List.flatMap_cons]
      simp only [List.append_assoc]
    have hl := text_len t.text
    refine ⟨?_, ?_, ?_⟩
    · intro i hi
      rw [byte_get, byte_get, e]
      congr 2
      show ((pre ++ t.text.data.toList ++ sep) ++ joinL sep ts)[pre.length + i]? = _
      rw [List.append_assoc, List.append_assoc, List.getElem?_append_right (by omega), show pre.length + i - pre.length = i by omega, List.getElem?_append_left (by omega)]
    · rw [e]
      show sep.isPrefixOf (((pre ++ t.text.data.toList ++ sep) ++ joinL sep ts).drop (pre.length + t.text.size)) = true
      rw [List.append_assoc, ← hl, ← List.length_append, List.drop_left]
      exact List.isPrefixOf_iff_prefix.2 (List.prefix_append _ _)
    · rw [e]
      have := joined_of sep ts (pre ++ t.text.data.toList ++ sep)
      rw [List.length_append, List.length_append, hl] at this
      exact this
theorem bet_stay (s : ByteArray) (p l k : Nat) (h : p < s.size → byteAt s p ≠ 10 ∧ byteAt s p ≠ 32 ∧ byteAt s p ≠ 9 ∧ byteAt s p ≠ 13 ∧ byteAt s p ≠ 47) : betA (dropB s p) l k = (dropB s p, l, k) := by
  unfold betA
  by_cases hp : p < s.size
  · have hb := h hp
    rw [betK_step _ _ _ (by rw [dropB_size]; omega), at0_drop, if_neg hb.1, if_neg (by omega), if_neg]
    intro hx
    have hx : [47, 47].isPrefixOf (dropB s p).data.toList = true := hx
    rw [drop_list, pre_head, Bool.and_eq_true, Bool.and_eq_true, decide_eq_true_eq, decide_eq_true_eq] at hx
    exact hb.2.2.2.2 hx.1.2.symm
  · have e : (dropB s p).size = 0 := by rw [dropB_size]; omega
    rw [e]
    rfl
theorem lex_join (lines : Bool) (sep : List UInt8) (s : ByteArray) (hsep : ∀ p l k, sep.isPrefixOf (s.data.toList.drop p) = true → ∃ l1 k1, betA (dropB s p) l k = betA (dropB s (p + sep.length)) l1 k1 ∧ (lines = true → l1 = l + 1 ∧ k1 = 1)) (b0 : UInt8) (r0 : List UInt8) (hb0 : sep = b0 :: r0) (hb1 : b0.toNat = 32 ∨ b0.toNat = 47) :
    ∀ (ts : List Tok) (e : Tok) (p q l k l1 k1 f : Nat) (acc : List Tok), (∀ t ∈ ts, Good t) → EndT e → Joined s sep ts p → betA (dropB s q) l k = betA (dropB s p) l1 k1 → (lines = true → k1 = 1) → s.size - p < f → ∃ m, lexK f (dropB s q) l k acc = .ok (acc ++ m) ∧ ∀ L, (lines = true → l1 = L) → Ali lines L (ts ++ [e]) m := by
  intro ts
  induction ts with
  | nil =>
    intro e p q l k l1 k1 f acc hG hE hJ hq hk hf
    have hJ : p = s.size := hJ
    obtain ⟨f, rfl⟩ : ∃ g, f = g + 1 := ⟨f - 1, by omega⟩
    have hz : tokR (dropB s p) l1 k1 = ⟨⟨5, (dropB s p).extract 0 0, 0, l1, k1⟩, noFlt, dropB (dropB s p) 0, k1 + 0⟩ := by
      unfold tokR
      rw [if_pos (by rw [dropB_size]; omega)]
    refine ⟨[⟨5, (dropB s p).extract 0 0, 0, l1, k1⟩], ?_, ?_⟩
    · unfold lexK
      rw [hq, bet_stay s p l1 k1 (fun h => absurd h (by omega))]
      show (if (tokR (dropB s p) l1 k1).flt.code ≠ 0 then _ else _) = _
      rw [hz, if_neg (by show ¬ (0 : Nat) ≠ 0; decide), if_pos rfl]
    · intro L hL
      exact ⟨⟨hE.1.symm, by show (dropB s p).extract 0 0 = e.text; rw [cut_none, hE.2.1], hE.2.2.symm, fun h => ⟨hL h, hk h⟩⟩, trivial⟩
  | cons t ts ih =>
    intro e p q l k l1 k1 f acc hG hE hJ hq hk hf
    obtain ⟨j1, j2, j3⟩ := hJ
    obtain ⟨s0, p0, l0, k0, g1, g2, g3, g4, g5⟩ := hG t (List.mem_cons_self ..)
    have hx := j2
    rw [hb0, pre_head, Bool.and_eq_true, Bool.and_eq_true, decide_eq_true_eq, decide_eq_true_eq] at hx
    have hL : Like s0 p0 s p t.text.size := by
      refine ⟨g1, hx.1.1, ?_, ?_⟩
      · rw [← hx.1.2]; exact hb1
      · intro i hi
        rw [j1 i hi, g5, byte_get, byte_get, ByteArray.data_extract]
        simp only [Array.toList_extract, List.extract_eq_take_drop, List.getElem?_take, List.getElem?_drop]
        rw [if_pos (by omega)]
    obtain ⟨n0, hf1, c, hf2⟩ := tok_like hL l0 k0 l1 k1 _ rfl g2 (by rw [g3]; exact g4) (by rw [g3])
    rw [g3] at hf2
    have hby := hL.same 0 n0
    rw [Nat.add_zero, Nat.add_zero] at hby
    obtain ⟨f, rfl⟩ : ∃ g, f = g + 1 := ⟨f - 1, by omega⟩
    obtain ⟨l2, k2, s1, s2⟩ := hsep (p + t.text.size) l1 c j2
    obtain ⟨m, m1, m2⟩ := ih e (p + t.text.size + sep.length) (p + t.text.size) l1 c l2 k2 f (acc ++ [⟨t.kind, t.text, t.val, l1, k1⟩]) (fun u hu => hG u (List.mem_cons_of_mem _ hu)) hE j3 s1 (fun h => (s2 h).2) (by omega)
    refine ⟨⟨t.kind, t.text, t.val, l1, k1⟩ :: m, ?_, ?_⟩
    · unfold lexK
      rw [hq, bet_stay s p l1 k1 (fun _ => by rw [← hby]; exact hf1)]
      show (if (tokR (dropB s p) l1 k1).flt.code ≠ 0 then _ else _) = _
      rw [hf2, if_neg (by show ¬ (0 : Nat) ≠ 0; decide), if_neg g4]
      show lexK f (dropB s (p + t.text.size)) l1 c _ = _
      rw [m1, List.append_assoc]
      rfl
    · intro L hLL
      exact ⟨⟨rfl, rfl, rfl, fun h => ⟨hLL h, hk h⟩⟩, m2 (L + 1) (fun h => by rw [(s2 h).1, hLL h])⟩
theorem sep_blank (s : ByteArray) (p l k : Nat) (h : ([32] : List UInt8).isPrefixOf (s.data.toList.drop p) = true) : ∃ l1 k1, betA (dropB s p) l k = betA (dropB s (p + ([32] : List UInt8).length)) l1 k1 ∧ (false = true → l1 = l + 1 ∧ k1 = 1) := by
  rw [pre_head, Bool.and_eq_true, Bool.and_eq_true, decide_eq_true_eq, decide_eq_true_eq] at h
  have hb : byteAt s p = 32 := h.1.2.symm
  refine ⟨l, k + 1, ?_, fun e => absurd e (by decide)⟩
  unfold betA
  rw [betK_step _ _ _ (by rw [dropB_size]; omega), at0_drop, hb, if_neg (by decide), if_pos (Or.inl rfl), drop_drop]
  rfl
theorem rem_go (s : ByteArray) (p f i n r w : Nat) (hd : Utf8.decode s (p + i) = (r, w)) (h1 : r ≠ 10) (h2 : r ≠ 65533) (hi : p + i < s.size) : remK (dropB s p) (f + 1) i n = remK (dropB s p) f (i + w) (n + 1) := by
  have hs : ¬ remStop (dropB s p) i = true := by
    rw [remStop_at, hd]
    simp [h1, h2]
  conv => lhs; unfold remK
  rw [dropB_size, if_pos (by omega), if_neg hs, dec_drop, hd]
theorem sep_lines (s : ByteArray) (p l k : Nat) (h : ([47, 47, 32, 206, 177, 10] : List UInt8).isPrefixOf (s.data.toList.drop p) = true) : ∃ l1 k1, betA (dropB s p) l k = betA (dropB s (p + ([47, 47, 32, 206, 177, 10] : List UInt8).length)) l1 k1 ∧ (true = true → l1 = l + 1 ∧ k1 = 1) := by
  have h0 := h
  rw [pre_head, pre_head, pre_head, pre_head, pre_head, pre_head] at h
  simp only [Bool.and_eq_true, decide_eq_true_eq] at h
  obtain ⟨⟨a0, b0⟩, ⟨a1, b1⟩, ⟨a2, b2⟩, ⟨a3, b3⟩, ⟨a4, b4⟩, ⟨a5, b5⟩, -⟩ := h
  have b0 : byteAt s p = 47 := b0.symm
  have b1 : byteAt s (p + 1) = 47 := b1.symm
  have b2 : byteAt s (p + 2) = 32 := b2.symm
  have b3 : byteAt s (p + 3) = 206 := b3.symm
  have b4 : byteAt s (p + 4) = 177 := b4.symm
  have b5 : byteAt s (p + 5) = 10 := b5.symm
  have hpre : Lib.hasPrefix (dropB s p).data.toList [47, 47] = true := by
    show ([47, 47] : List UInt8).isPrefixOf (dropB s p).data.toList = true
    rw [drop_list, pre_head, pre_head, decide_eq_true a0, decide_eq_true a1, b0, b1]
    rfl
  have hrem : remA (dropB s p) = (5, 4) := by
    obtain ⟨f, hf⟩ : ∃ f, (dropB s p).size = f + 5 := ⟨s.size - p - 5, by rw [dropB_size]; omega⟩
    unfold remA
    rw [hf, rem_go s p (f + 4) 0 0 47 1 (by rw [Nat.add_zero, dec_ascii' s p (by omega), b0]) (by decide) (by decide) (by omega)]
    rw [rem_go s p (f + 3) 1 1 47 1 (by rw [dec_ascii' s (p + 1) (by omega), b1]) (by decide) (by decide) (by omega)]
    rw [rem_go s p (f + 2) 2 2 32 1 (by rw [dec_ascii' s (p + 2) (by omega), b2]) (by decide) (by decide) (by omega)]
    rw [rem_go s p (f + 1) 3 3 945 2 (by rw [dec_bytes, b3, show p + 3 + 1 = p + 4 from rfl, b4]; unfold decB; rw [if_neg (by decide), if_pos ⟨by decide, by omega, by decide⟩, if_pos (by decide)]) (by decide) (by decide) (by omega)]
    have hs : remStop (dropB s p) 5 = true := by
      rw [remStop_at, dec_ascii' s (p + 5) (by omega), b5]
      rfl
    show remK (dropB s p) (f + 1) 5 4 = (5, 4)
    unfold remK
    rw [dropB_size, if_pos (by omega), if_pos hs]
  refine ⟨l + 1, 1, ?_, fun _ => ⟨rfl, rfl⟩⟩
  unfold betA
  rw [betK_step _ _ _ (by rw [dropB_size]; omega), at0_drop, b0, if_neg (by decide), if_neg (by decide), if_pos hpre, hrem]
  show betK (dropB (dropB s p) 5).size (dropB (dropB s p) 5) l (k + 4) = _
  rw [drop_drop, betK_step _ _ _ (by rw [dropB_size]; omega), at0_drop, b5, if_pos rfl, drop_drop]
  rfl
theorem join_any (lines : Bool) (sep : List UInt8) (hsep : ∀ s p l k, sep.isPrefixOf (s.data.toList.drop p) = true → ∃ l1 k1, betA (dropB s p) l k = betA (dropB s (p + sep.length)) l1 k1 ∧ (lines = true → l1 = l + 1 ∧ k1 = 1)) (b0 : UInt8) (r0 : List UInt8) (hb0 : sep = b0 :: r0) (hb1 : b0.toNat = 32 ∨ b0.toNat = 47) (s : ByteArray) (toks : List Tok) (h : lexA s = .ok toks) (hl : (joinL sep (toks.take (toks.length - 1))).length ≤ 65536) :
    ∃ m, lexA ⟨(joinL sep (toks.take (toks.length - 1))).toArray⟩ = .ok m ∧ Ali lines 1 toks m := by
  unfold lexA at h
  split at h
  · exact absurd h (by simp)
  · obtain ⟨ts, e, e1, e2, e3⟩ := lex_good s (s.size + 1) 0 0 1 1 [] toks (Bnd.start s) (by omega) (by rw [drop_zero]; exact h)
    rw [List.nil_append] at e1
    subst e1
    have et : (ts ++ [e]).take ((ts ++ [e]).length - 1) = ts := by
      rw [List.length_append]
      exact List.take_left
    rw [et] at hl ⊢
    have hsz : (⟨(joinL sep ts).toArray⟩ : ByteArray).size = (joinL sep ts).length := by show (joinL sep ts).toArray.size = _; simp
    have hJ := joined_of sep ts []
    rw [List.nil_append] at hJ
    obtain ⟨m, m1, m2⟩ := lex_join lines sep ⟨(joinL sep ts).toArray⟩ (hsep _) b0 r0 hb0 hb1 ts e 0 0 1 1 1 1 ((⟨(joinL sep ts).toArray⟩ : ByteArray).size + 1) [] e2 e3 hJ rfl (fun _ => rfl) (by omega)
    refine ⟨m, ?_, m2 1 (fun _ => rfl)⟩
    unfold lexA
    rw [if_neg (by rw [hsz]; omega)]
    rw [drop_zero, List.nil_append] at m1
    exact m1
abbrev sep1 : List UInt8 := [32]
abbrev sep2 : List UInt8 := [47, 47, 32, 206, 177, 10]
theorem join_plain (s : ByteArray) (toks : List Tok) (h : lexA s = .ok toks) (hl : (joinL sep1 (toks.take (toks.length - 1))).length ≤ 65536) : ∃ m, lexA ⟨(joinL sep1 (toks.take (toks.length - 1))).toArray⟩ = .ok m ∧ Ali false 1 toks m :=
  join_any false [32] sep_blank 32 [] rfl (Or.inl rfl) s toks h hl
theorem join_lines (s : ByteArray) (toks : List Tok) (h : lexA s = .ok toks) (hl : (joinL sep2 (toks.take (toks.length - 1))).length ≤ 65536) : ∃ m, lexA ⟨(joinL sep2 (toks.take (toks.length - 1))).toArray⟩ = .ok m ∧ Ali true 1 toks m :=
  join_any true [47, 47, 32, 206, 177, 10] sep_lines 47 _ rfl (Or.inr rfl) s toks h hl
end Go.Proofs.YtkgppagpjbkhmaaDoor
