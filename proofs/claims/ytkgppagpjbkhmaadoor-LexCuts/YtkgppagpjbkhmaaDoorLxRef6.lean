/- What the walk of the reference's Lex keeps. -/
import Derived.Test.YtkgppagpjbkhmaaDoorLxRef5
import Derived.Test.YtkgppagpjbkhmaaDoorLxJoin2
namespace Go.Proofs.YtkgppagpjbkhmaaDoor
open Go.RowKit Go.Shelf

theorem Bnd.mono {s : ByteArray} : ∀ (m : Nat) {j p l k p' l' k' : Nat}, Bnd s j p l k → Bnd s (j + m) p' l' k' → p ≤ p'
  | 0, j, p, l, k, p', l', k', h, h' => by
    obtain ⟨x, e1, e2, _⟩ := h.get
    obtain ⟨y, f1, f2, _⟩ := h'.get
    rw [Nat.add_zero, e1] at f1
    rw [← e2, ← f2, Option.some.inj f1]
    exact Nat.le_refl _
  | m + 1, j, p, l, k, p', l', k', h, h' => by
    by_cases hp : p < s.size
    · have hs := h.step hp
      have := Bnd.mono m hs (by rw [show j + 1 + m = j + (m + 1) by omega]; exact h')
      omega
    · exfalso
      have hl := h'.lt
      have e := congrArg List.length h.2
      rw [List.length_drop, show s.size - p = 0 by omega] at e
      have : (runesK s 0 p l k).length = 1 := rfl
      omega
theorem Bnd.idx {s : ByteArray} {j p l k j' p' l' k' : Nat} (h : Bnd s j p l k) (h' : Bnd s j' p' l' k') (hp : p < p') : j < j' := by
  rcases Nat.lt_or_ge j j' with e | e
  · exact e
  · exfalso
    obtain ⟨m, rfl⟩ : ∃ m, j = j' + m := ⟨j - j', by omega⟩
    have := Bnd.mono m h' h
    omega
/-- Where Lex stands between two tokens. -/
def LexW (s : ByteArray) (j p l k : Nat) (acc : List Tok) : Prop := Bnd s j p l k ∧ ∃ f, s.size - p < f ∧ lexA s = lexK f (dropB s p) l k acc
theorem LexW.start {s : ByteArray} (hs : s.size ≤ 65536) : LexW s 0 0 1 1 [] := ⟨Bnd.start s, s.size + 1, by omega, by unfold lexA; rw [if_neg (by omega), drop_zero]⟩
theorem LexW.step {s : ByteArray} {j p l k p1 l1 k1 j2 p2 k2 : Nat} {acc : List Tok} {tk : Tok} (h : LexW s j p l k acc) (hb : betA (dropB s p) l k = (dropB s p1, l1, k1)) (hpp : p ≤ p1) (ht : tokR (dropB s p1) l1 k1 = ⟨tk, noFlt, dropB s p2, k2⟩) (h5 : tk.kind ≠ 5) (h2 : Bnd s j2 p2 l1 k2) (hlt : p1 < p2) : LexW s j2 p2 l1 k2 (acc ++ [tk]) := by
  obtain ⟨h1, f, hf, he⟩ := h
  have hp2 := h2.1
  obtain ⟨f, rfl⟩ : ∃ g, f = g + 1 := ⟨f - 1, by omega⟩
  refine ⟨h2, f, by omega, ?_⟩
  rw [he]
  conv => lhs; unfold lexK
  rw [hb]
  simp only [ht]
  rw [if_neg (by show ¬ (0 : Nat) ≠ 0; decide), if_neg h5]
theorem LexW.fault {s : ByteArray} {j p l k p1 l1 k1 : Nat} {acc : List Tok} {r : TR} (h : LexW s j p l k acc) (hb : betA (dropB s p) l k = (dropB s p1, l1, k1)) (ht : tokR (dropB s p1) l1 k1 = r) (hc : r.flt.code ≠ 0) : lexA s = .error r.flt := by
  obtain ⟨h1, f, hf, he⟩ := h
  obtain ⟨f, rfl⟩ : ∃ g, f = g + 1 := ⟨f - 1, by omega⟩
  rw [he]
  unfold lexK
  rw [hb]
  simp only [ht]
  rw [if_pos hc]
theorem LexW.done {s : ByteArray} {j p l k p1 l1 k1 : Nat} {acc : List Tok} (h : LexW s j p l k acc) (hb : betA (dropB s p) l k = (dropB s p1, l1, k1)) (hp : ¬ p1 < s.size) : lexA s = .ok (acc ++ [⟨5, ⟨#[]⟩, 0, l1, k1⟩]) := by
  obtain ⟨h1, f, hf, he⟩ := h
  obtain ⟨f, rfl⟩ : ∃ g, f = g + 1 := ⟨f - 1, by omega⟩
  have hz : tokR (dropB s p1) l1 k1 = ⟨⟨5, ⟨#[]⟩, 0, l1, k1⟩, noFlt, dropB (dropB s p1) 0, k1 + 0⟩ := by
    unfold tokR
    rw [if_pos (by rw [dropB_size]; omega), cut_none]
  rw [he]
  unfold lexK
  rw [hb]
  simp only [hz]
  rw [if_neg (by show ¬ (0 : Nat) ≠ 0; decide), if_pos trivial]
theorem bet_le {s : ByteArray} {p l k p1 l1 k1 : Nat} (hb : betA (dropB s p) l k = (dropB s p1, l1, k1)) (h0 : p ≤ s.size) (h1 : p1 ≤ s.size) : p ≤ p1 := by
  have h := (betK_bound ((dropB s p).size + l + k) (dropB s p).size (dropB s p) l k (by omega) (by omega)).1
  have hb : betK (dropB s p).size (dropB s p) l k = (dropB s p1, l1, k1) := hb
  rw [hb, dropB_size, dropB_size] at h
  omega
theorem sign_head (s : ByteArray) (p : Nat) : ∀ ls : List (List UInt8), 0 < signK (dropB s p) ls → ∃ b r, b :: r ∈ ls ∧ b.toNat = byteAt s p
  | [], h => absurd h (Nat.lt_irrefl _)
  | l :: ls, h => by
    unfold signK at h
    by_cases h1 : Lib.hasPrefix (dropB s p).data.toList l = true
    · rw [if_pos h1] at h
      have hx : l.isPrefixOf (dropB s p).data.toList = true := h1
      rw [drop_list] at hx
      cases l with
      | nil => exact absurd h (Nat.lt_irrefl _)
      | cons b r =>
        rw [pre_head, Bool.and_eq_true, Bool.and_eq_true, decide_eq_true_eq, decide_eq_true_eq] at hx
        exact ⟨b, r, List.mem_cons_self .., hx.1.2⟩
    · rw [if_neg h1] at h
      obtain ⟨b, r, h2, h3⟩ := sign_head s p ls h
      exact ⟨b, r, List.mem_cons_of_mem _ h2, h3⟩
theorem signs_nodigit : (signsL.all fun l => match l with | [] => true | b :: _ => !digitB b.toNat) = true := by decide
theorem tok_digit {s : ByteArray} {p l k : Nat} (hp : p < s.size) (hd : digitB (byteAt s p) = true) : tokR (dropB s p) l k = numR (dropB s p) l k := by
  have hdg := digitB_iff.1 hd
  have hn := name_zero s p hp (by omega) (by simp only [letterB, Bool.or_eq_false_iff, Bool.and_eq_false_iff, decide_eq_false_iff_not]; omega)
  have hs : signA (dropB s p) = 0 := by
    rcases Nat.eq_zero_or_pos (signA (dropB s p)) with h | h
    · exact h
    · obtain ⟨b, r, h1, h2⟩ := sign_head s p signsL h
      have := List.all_eq_true.1 signs_nodigit _ h1
      simp only [Bool.not_eq_true'] at this
      rw [h2, hd] at this
      exact absurd this (by decide)
  unfold tokR
  rw [dropB_size, if_neg (by omega), hn, if_neg (Nat.lt_irrefl _), hs, if_neg (Nat.lt_irrefl _), at0_drop, if_pos hd]
/-- Where the name's loop stands. -/
def NamW (s : ByteArray) (j p l k n q : Nat) : Prop := Bnd s (j + n) q l (k + n) ∧ p ≤ q ∧ (n = 0 ↔ q = p) ∧ ∃ g, s.size - q ≤ g ∧ nameA (dropB s p) = nameK (dropB s p) g (q - p) n
theorem NamW.start {s : ByteArray} {j p l k : Nat} (h : Bnd s j p l k) : NamW s j p l k 0 p := ⟨h, Nat.le_refl _, ⟨fun _ => rfl, fun _ => rfl⟩, (dropB s p).size, by rw [dropB_size]; omega, by rw [Nat.sub_self]; rfl⟩
theorem word_ne {r : Nat} (h : letterB r = true ∨ digitB r = true) : r ≠ 10 := by
  intro e
  subst e
  rcases h with h | h <;> exact absurd h (by decide)
theorem NamW.more {s : ByteArray} {j p l k n q : Nat} (h : NamW s j p l k n q) (hq : q < s.size) (hr : letterB (Utf8.decode s q).1 = true ∨ (n ≠ 0 ∧ digitB (Utf8.decode s q).1 = true)) : NamW s j p l k (n + 1) (q + (Utf8.decode s q).2) := by
  obtain ⟨h1, h2, h3, g, h4, h5⟩ := h
  obtain ⟨g, rfl⟩ : ∃ g', g = g' + 1 := ⟨g - 1, by omega⟩
  have hw := dec_pos s q
  have h10 : (Utf8.decode s q).1 ≠ 10 := word_ne (hr.imp id (·.2))
  have e : p + (q - p) = q := by omega
  have hst : ¬ nameStop (dropB s p) (q - p) = true := by
    unfold nameStop
    rw [dec_drop, e]
    rcases hr with hr | ⟨hn, hr⟩
    · rw [hr]; simp
    · rw [hr]
      have : ¬ q - p = 0 := fun e => hn (h3.2 (by omega))
      simp [this]
  have hs := h1.step hq
  rw [if_neg (runeI_ne s q h10), if_neg (runeI_ne s q h10)] at hs
  refine ⟨hs, by omega, ⟨fun e => by omega, fun e => by omega⟩, g, by omega, ?_⟩
  rw [h5]
  conv => lhs; unfold nameK
  rw [dropB_size, if_pos (by omega), if_neg hst, dec_drop, e, show q - p + (Utf8.decode s q).2 = q + (Utf8.decode s q).2 - p by omega]
theorem NamW.stop {s : ByteArray} {j p l k n q : Nat} (h : NamW s j p l k n q) (hr : q < s.size → letterB (Utf8.decode s q).1 = false ∧ digitB (Utf8.decode s q).1 = false) : nameA (dropB s p) = (q - p, n) := by
  obtain ⟨h1, h2, h3, g, h4, h5⟩ := h
  rw [h5]
  have hqs := h1.1
  by_cases hq : q < s.size
  · obtain ⟨g, rfl⟩ : ∃ g', g = g' + 1 := ⟨g - 1, by omega⟩
    have e : p + (q - p) = q := by omega
    have hst : nameStop (dropB s p) (q - p) = true := by
      unfold nameStop
      rw [dec_drop, e, (hr hq).1, (hr hq).2]
      simp
    unfold nameK
    rw [dropB_size, if_pos (by omega), if_pos hst]
  · rw [nameK_end (by rw [dropB_size]; omega), dropB_size, show s.size = q by omega]
theorem rune_word {s : ByteArray} {j p l k : Nat} (h : Bnd s j p l k) : ∃ r n, (runesA s)[j]? = some ⟨r, p, n, l, k⟩ ∧ ((letterRB ⟨r, p, n, l, k⟩ = true ∧ p < s.size ∧ letterB (Utf8.decode s p).1 = true) ∨ (letterRB ⟨r, p, n, l, k⟩ = false ∧ digitRB ⟨r, p, n, l, k⟩ = true ∧ p < s.size ∧ letterB (Utf8.decode s p).1 = false ∧ digitB (Utf8.decode s p).1 = true) ∨ (letterRB ⟨r, p, n, l, k⟩ = false ∧ digitRB ⟨r, p, n, l, k⟩ = false ∧ (p < s.size → letterB (Utf8.decode s p).1 = false ∧ digitB (Utf8.decode s p).1 = false))) := by
  by_cases hp : p < s.size
  · refine ⟨_, _, rune_x h hp, ?_⟩
    rw [letter_rune, digit_rune]
    cases h1 : letterB (Utf8.decode s p).1
    · cases h2 : digitB (Utf8.decode s p).1
      · exact Or.inr (Or.inr ⟨rfl, rfl, fun _ => ⟨rfl, rfl⟩⟩)
      · exact Or.inr (Or.inl ⟨rfl, rfl, hp, rfl, rfl⟩)
    · exact Or.inl ⟨rfl, hp, rfl⟩
  · exact ⟨_, _, rune_end h hp, Or.inr (Or.inr ⟨rfl, rfl, fun e => absurd e hp⟩)⟩
theorem tok_name {s : ByteArray} {j p l k n q : Nat} (h : NamW s j p l k n q) (hn : nameA (dropB s p) = (q - p, n)) (h0 : p < q) : tokR (dropB s p) l k = ⟨⟨if wordB (s.extract p q) = true then 3 else 1, s.extract p q, 0, l, k⟩, noFlt, dropB s q, k + n⟩ := by
  have hqs := h.1.1
  have hc := cut_cut s p (q - p) (by omega)
  rw [show p + (q - p) = q by omega] at hc
  unfold tokR
  rw [dropB_size, if_neg (by omega), hn, if_pos (by omega)]
  simp only [hc]
  rw [drop_drop, show p + (q - p) = q by omega]
theorem other_zero {s : ByteArray} {p : Nat} (hp : p < s.size) (hl : letterB (Utf8.decode s p).1 = false) : (nameA (dropB s p)).1 = 0 := by
  have hst : nameStop (dropB s p) 0 = true := by
    unfold nameStop
    rw [dec_drop, Nat.add_zero, hl]
    rfl
  have e : (dropB s p).size = (s.size - p - 1) + 1 := by rw [dropB_size]; omega
  unfold nameA
  rw [e]
  unfold nameK
  rw [dropB_size, if_pos (by omega), if_pos hst]
theorem tok_sign {s : ByteArray} {p l k : Nat} (hp : p < s.size) (hl : letterB (Utf8.decode s p).1 = false) (hs : 0 < signA (dropB s p)) : p + signA (dropB s p) ≤ s.size ∧ tokR (dropB s p) l k = ⟨⟨4, s.extract p (p + signA (dropB s p)), 0, l, k⟩, noFlt, dropB s (p + signA (dropB s p)), k + signA (dropB s p)⟩ := by
  have hle := signA_le (dropB s p)
  rw [dropB_size] at hle
  refine ⟨by omega, ?_⟩
  unfold tokR
  rw [dropB_size, if_neg (by omega), other_zero hp hl, if_neg (Nat.lt_irrefl _), if_pos hs, drop_drop, cut_cut s p _ (by omega)]
theorem tok_none {s : ByteArray} {p l k : Nat} (hp : p < s.size) (hl : letterB (Utf8.decode s p).1 = false) (hd : digitB (Utf8.decode s p).1 = false) (hs : signA (dropB s p) = 0) : tokR (dropB s p) l k = ⟨noTok, ⟨20, l, k⟩, dropB s p, k⟩ := by
  have hdb : ¬ digitB (byteAt s p) = true := by
    intro e
    have := digitB_iff.1 e
    rw [dec_ascii' s p (by omega)] at hd
    rw [e] at hd
    exact absurd hd (by decide)
  unfold tokR
  rw [dropB_size, if_neg (by omega), other_zero hp hl, if_neg (Nat.lt_irrefl _), hs, if_neg (Nat.lt_irrefl _), at0_drop, if_neg hdb]
  rfl
/-- What lies in memory between two tokens. -/
structure RS (w W : World) (B gr capr : Nat) (s : ByteArray) (v : Value) (acc : List Tok) : Prop where
  tab : RTab W (w.heap.size + 1) gr capr s
  own : W.ownsRow B 44 5 v acc.length (encT acc)
  flt : Blk W w.heap.size 38 (fltC noFlt)
  below : Below w.heap.size w W
  lo : w.heap.size < B ∧ gr < B ∧ B ≤ W.heap.size ∧ w.heap.size < gr
theorem ownsK_below {w w' : World} {base : Nat} {v : Value} {n : Nat} {xs : List Value} (h : w.ownsRow base 44 5 v n xs) (hb : Below w.heap.size w w') : w'.ownsRow base 44 5 v n xs := by
  refine ⟨h.1, ?_⟩
  rcases h.2 with h2 | ⟨g, cap, cur, rfl, h4, h5, h6⟩
  · exact .inl h2
  · exact .inr ⟨g, cap, cur, rfl, h4, (hb.block g (Blk.lt (t := 44) (cs := cur) h5)).trans h5, h6⟩
theorem RS.to {w W W' : World} {B gr capr : Nat} {s : ByteArray} {v : Value} {acc : List Tok} (h : RS w W B gr capr s v acc) (hb : Below W.heap.size W W') : RS w W' B gr capr s v acc :=
  ⟨h.tab.below hb, ownsK_below h.own hb, Blk.of_below h.flt hb, below_step h.below h.below.size hb, by have := h.lo; have := hb.size; omega⟩
/-- The same, with the rune and the token of this round. -/
structure RSt (w W : World) (B gr capr : Nat) (s : ByteArray) (v : Value) (acc : List Tok) (rb tb : Nat) (x : Rn) (t : Tok) : Prop where
  rs : RS w W B gr capr s v acc
  rblk : Blk W rb 52 (rnC x)
  tblk : Blk W tb 44 (tokC t)
  ne : rb ≠ tb
  hi : B ≤ rb ∧ B ≤ tb
  own : v.ownBlock ≠ some tb
theorem RSt.to {w W W' : World} {B gr capr : Nat} {s : ByteArray} {v : Value} {acc : List Tok} {rb tb : Nat} {x : Rn} {t : Tok} (h : RSt w W B gr capr s v acc rb tb x t) (hb : Below W.heap.size W W') : RSt w W' B gr capr s v acc rb tb x t :=
  ⟨h.rs.to hb, Blk.of_below h.rblk hb, Blk.of_below h.tblk hb, h.ne, h.hi, h.own⟩
theorem RSt.begin {w W : World} {B gr capr : Nat} {s : ByteArray} {v : Value} {acc : List Tok} (h : RS w W B gr capr s v acc) (x : Rn) (t : Tok) : RSt w ((W.alloc (.cells (rnC x) 52)).alloc (.cells (tokC t) 44)) B gr capr s v acc W.heap.size (W.heap.size + 1) x t := by
  have hb : Below W.heap.size W ((W.alloc (.cells (rnC x) 52)).alloc (.cells (tokC t) 44)) := ((Below.refl _ _).alloc (Nat.le_refl _) _).alloc (by simp) _
  have hl := h.lo
  refine ⟨h.to hb, (Blk.new W _ _).alloc _, ?_, by omega, by omega, ?_⟩
  · have := Blk.new (W.alloc (.cells (rnC x) 52)) 44 (tokC t)
    rwa [World.size_alloc] at this
  · intro e
    have := (h.own.lt _ e).2
    omega
theorem RSt.set {w W : World} {B gr capr : Nat} {s : ByteArray} {v : Value} {acc : List Tok} {rb tb : Nat} {x : Rn} {t : Tok} (h : RSt w W B gr capr s v acc rb tb x t) (j : Nat) (u : Value) (t' : Tok) (ht : (tokC t).setIfInBounds j u = tokC t') : RSt w (W.setCell ⟨tb, j, none⟩ u) B gr capr s v acc rb tb x t' := by
  have hl := h.rs.lo
  have hh := h.hi
  refine ⟨⟨?_, ?_, h.rs.flt.setOther (by show w.heap.size ≠ tb; omega) _, h.rs.below.setCell (by show w.heap.size ≤ tb; omega) _, by simp; omega⟩, h.rblk.setOther h.ne _, ?_, h.ne, h.hi, h.own⟩
  · refine ⟨h.rs.tab.1, ?_⟩
    rcases h.rs.tab.2 with h2 | ⟨g, cap, cur, e, h4, h5, h6⟩
    · exact .inl h2
    · cases e
      exact .inr ⟨gr, capr, cur, rfl, h4, Blk.setOther (t := 52) (cs := cur) h5 (by show gr ≠ tb; omega) _, h6⟩
  · refine ⟨h.rs.own.1, ?_⟩
    rcases h.rs.own.2 with h2 | ⟨g, cap, cur, e, h4, h5, h6⟩
    · exact .inl h2
    · subst e
      refine .inr ⟨g, cap, cur, rfl, h4, Blk.setOther (t := 44) (cs := cur) h5 ?_ _, h6⟩
      intro e
      exact h.own (by simp only [] at e; rw [← e]; rfl)
  · have := h.tblk.set j u
    rwa [ht] at this
theorem RSt.drewN {w W : World} {B gr capr : Nat} {s : ByteArray} {v : Value} {acc : List Tok} {rb tb : Nat} {x : Rn} {t : Tok} (h : RSt w W B gr capr s v acc rb tb x t) (n : Nat) : RSt w (W.drewN n) B gr capr s v acc rb tb x t := h.to (below_drewN (Below.refl _ _) n)
theorem Tryd.infortok : (Tryd.prog.info? 44).map (fun i => (i.zero, i.size, i.bytes)) = some (some (.agg #[.int .i64 0, .string ⟨#[]⟩, .int .u64 0, .int .i64 0, .int .i64 0]), 5, 48) := by kernel_rfl
theorem make_rtoks (w : World) : (Instr.makeSlice 36 (.int .i64 0) (.int .i64 0)).run Tryd.prog w = .ok (.slice (some ⟨w.heap.size, 0, none⟩) 0 0) (w.alloc (.cells #[] 44)) := by
  obtain ⟨i, hx, hz, hs, hb⟩ := info_parts Tryd.infortok
  have := run_make (P := Tryd.prog) w 36 44 i _ Tryd.underlying36 hx hz .i64 .i64 0 0 (by omega) (by omega) (by rw [hb]; omega) (by omega)
  rw [this, hs]
  have e : madeCells (Value.agg #[.int .i64 0, .string ⟨#[]⟩, .int .u64 0, .int .i64 0, .int .i64 0]).cells ((0 : Int).toNat * 5) = #[] := Array.eq_empty_of_size_eq_zero (by rw [size_madeCells]; rfl)
  rw [e]
  rfl
theorem news_rtok (w : World) (t : Tok) : ∀ j u, (tokC t).toList[j]? = some u → (w.alloc (.cells (tokC t) 44)).cell? ((⟨w.heap.size, 0, none⟩ : Addr).add j) = some u := by
  intro j u hj
  rw [Addr.add_lit, Nat.zero_add]
  exact (Blk.new w 44 (tokC t)).cell (by simpa using hj)
theorem RS.more {w W W' : World} {B gr capr : Nat} {s : ByteArray} {v v' : Value} {acc : List Tok} {t : Tok} {o : Obj} (h : RS w W B gr capr s v acc) (hown : W'.ownsRow B 44 5 v' (acc.length + 1) (encT acc ++ (tokC t).toList)) (hg : (W.alloc o).grownBy W' v.ownBlock) : RS w W' B gr capr s v' (acc ++ [t]) := by
  have hl := h.lo
  have hz2 := hg.size
  rw [World.size_alloc] at hz2
  have hne : ∀ k, k < B → v.ownBlock ≠ some k := fun k hk e => by have := (h.own.lt k e).1; omega
  have hal := h.to ((Below.refl W.heap.size W).alloc (Nat.le_refl _) o)
  refine ⟨?_, by rw [encT_snoc, List.length_append]; exact hown, (hg.block _ (by simp; omega) (fun e => hne _ hl.1 e.symm)).trans hal.flt, (h.below.alloc h.below.size _).grown hg (by simp; omega) (fun k e => by have := (h.own.lt k e).1; omega), by omega⟩
  refine ⟨hal.tab.1, ?_⟩
  rcases hal.tab.2 with h2 | ⟨g, cap, cur, e, h4, h5, h6⟩
  · exact .inl h2
  · cases e
    exact .inr ⟨gr, capr, cur, rfl, h4, (hg.block gr (by simp; omega) (fun e => hne _ hl.2.1 e.symm)).trans h5, h6⟩
/-- What the reference's Lex answers. -/
def RLexAns (w : World) (r : Except Flt (List Tok)) (e : Ending) (w' : World) : Prop :=
  (match r with
    | .error f => e = .returned (.tuple #[.slice none 0 0, .agg (fltC f)])
    | .ok l => ∃ v, e = .returned (.tuple #[v, .agg (fltC noFlt)]) ∧ w'.ownsRow w.heap.size 44 5 v l.length (encT l)) ∧ Below w.heap.size w w'
theorem ret_rlex {tmps : Array Value} {w : World} {g : Nat} {v : Value} (hv : tmps.getD 2 undef = v) (hp : tmps.getD 3 undef = pv g) (f : Flt) (hg : Blk w g 38 (fltC f)) :
    (results Tryd.f13 tmps).run Tryd.prog w = .ok (.tuple #[v, .agg (fltC f)]) w := by
  have hv' : tmps[2]?.getD undef = v := by simpa using hv
  have hp' : tmps[3]?.getD undef = pv g := by simpa using hp
  have h1 := run_loadVar_row (P := Tryd.prog) w g 38 38 (fltC f) (0, 0) _ hg Tryd.underlying38 rfl (by kernel_rfl)
  simp only [results, show Tryd.f13.results = #[.tmp 2, .cell 3 38] from rfl]
  simp [Result.andThen, asAddr, hv', hp', h1]
end Go.Proofs.YtkgppagpjbkhmaaDoor
