/- The statement LexJoins, walked. -/
import Derived.Test.YtkgppagpjbkhmaaDoorLxAgain
namespace Go.Proofs.YtkgppagpjbkhmaaDoor
open Go.RowKit Go.Shelf

theorem places_small (s : ByteArray) : ∀ (ts : List Tok) (j e : Nat), Places s ts j e → ∀ t ∈ ts, t.text.size ≤ s.size
  | [], _, _, h, _, _ => False.elim h
  | u :: ts, j, e, h, t, ht => by
    obtain ⟨j', p', _, _, _, h3, _, _, h4⟩ := h
    rcases List.mem_cons.1 ht with rfl | ht
    · omega
    · rcases h4 with ⟨rfl, _⟩ | h4
      · exact absurd ht (by simp)
      · exact places_small s ts _ _ h4 t ht
theorem joinL_snoc (sep : List UInt8) (toks : List Tok) (n : Nat) (t : Tok) (h : toks[n]? = some t) : joinL sep (toks.take (n + 1)) = joinL sep (toks.take n) ++ t.text.data.toList ++ sep := by
  rw [List.take_add_one, h]
  unfold joinL
  rw [List.flatMap_append]
  simp
theorem wpList_append_one {W : World} {ops : Array Oper} {rest : List Oper} {o : Oper} {a : Act} {Q : Exit → Act → World → Prop} (hgd : o.guard = none) (sl x : Operand)
    (ho : o.op = .call { callee := .builtin .append, args := #[sl, x], argTypes := #[32, 32] }) (base g cap n : Nat) (xs : List Value) (hs : a.eval sl = .slice (some ⟨g, 0, none⟩) n cap) (hown : W.ownsRow base 5 1 (.slice (some ⟨g, 0, none⟩) n cap) n xs) (b : UInt8) (hx : a.eval x = .slice (some ⟨W.heap.size, 0, none⟩) 1 1) (h63 : n + 1 ≤ 140737488355328) (hbase : base ≤ W.heap.size)
    (h : ∀ g' cap' w', w'.ownsRow base 5 1 (.slice (some ⟨g', 0, none⟩) (n + 1) cap') (n + 1) (xs ++ encB [b]) → (W.alloc (.cells #[.int .u8 ((b.toNat : Nat) : Int)] 5)).grownBy w' (some g) → (g' = g ∨ g' = (W.alloc (.cells #[.int .u8 ((b.toNat : Nat) : Int)] 5)).heap.size) → wpList Tryd.prog ops Q rest (a.put o.dst (.slice (some ⟨g', 0, none⟩) (n + 1) cap')) w') : wpList Tryd.prog ops Q (o :: rest) a (W.alloc (.cells #[.int .u8 ((b.toNat : Nat) : Int)] 5)) := by
  obtain ⟨i0, hi, hz0, hz1, hz2⟩ := info_parts Tryd.infou8
  refine wpList_append_own_at _ hgd sl x 32 ho base 5 i0 (.int .u8 0) 1 1 Tryd.underlying32 hi hz0 hz1 hz2 rfl (by decide) _ n xs hs (hown.alloc _) ⟨_, 0, none⟩ 1 1 [.int .u8 ((b.toNat : Nat) : Int)] hx rfl (news_u8 W b) (by simp [Value.oneCell']) (by unfold maxLen; omega) (by omega) (by simp; omega) ?_
  intro v' w' h1 h2 _ h4
  rcases id h1.2 with ⟨_, e⟩ | ⟨g', cap', cur, rfl, _⟩
  · omega
  · refine h g' cap' w' h1 h2 ?_
    rcases h4 with h4 | h4
    · exact Or.inl (Option.some.inj h4)
    · exact Or.inr (Option.some.inj h4)
theorem wrap_more (a : Nat) (ha : a + 1 ≤ 9223372036854775807) : wrap64 (((a : Nat) : Int) + 1) = ((a : Nat) : Int) + 1 := by
  unfold wrap64
  omega
theorem byte_few {w : World} {base : Nat} {v : Value} {n : Nat} {xs : List Value} (h : w.ownsRow base 5 1 v n xs) : n ≤ 9223372036854775807 := by
  rcases h.2 with ⟨_, e⟩ | ⟨g, cap', cur, _, _, _, h1, h2, _⟩
  · omega
  · unfold maxLen at h2
    omega
theorem wpTwo_str1 {w W : World} {ops : Array Oper} {rest : List Oper} {o : Oper} {a : Act} {Q : Exit → Act → World → Prop} (hgd : o.guard = none) (sl x : Operand)
    (ho : o.op = .call { callee := .builtin .append, args := #[sl, x], argTypes := #[32, 9] }) (g1 c1 : Nat) (A : List UInt8) (g2 c2 : Nat) (B : List UInt8) (h2 : Two w W g1 c1 A g2 c2 B) (hs : a.eval sl = .slice (some ⟨g1, 0, none⟩) A.length c1) (s : ByteArray) (hx : a.eval x = .string s) (h63 : A.length + s.size ≤ 140737488355328)
    (h : ∀ g' c' A' w', Hid (A' = A ++ s.data.toList) → A'.length = A.length + s.size → Two w w' g' c' A' g2 c2 B → wpList Tryd.prog ops Q rest (a.put o.dst (.slice (some ⟨g', 0, none⟩) A'.length c')) w') : wpList Tryd.prog ops Q (o :: rest) a W := by
  refine wpList_append_str hgd sl x ho w.heap.size g1 c1 A.length (encB A) hs h2.own1 s hx h63 h2.below.size ?_
  intro g' c' w' h3 h4 h5
  have h6 := h2.more1 (l := s.data.toList) (by rw [text_len]; exact h3) h4 h5
  have hl : (A ++ s.data.toList).length = A.length + s.size := by rw [List.length_append, text_len]
  have := h g' c' (A ++ s.data.toList) w' rfl hl h6
  rw [hl] at this
  exact this
theorem wpTwo_str2 {w W : World} {ops : Array Oper} {rest : List Oper} {o : Oper} {a : Act} {Q : Exit → Act → World → Prop} (hgd : o.guard = none) (sl x : Operand)
    (ho : o.op = .call { callee := .builtin .append, args := #[sl, x], argTypes := #[32, 9] }) (g1 c1 : Nat) (A : List UInt8) (g2 c2 : Nat) (B : List UInt8) (h2 : Two w W g1 c1 A g2 c2 B) (hs : a.eval sl = .slice (some ⟨g2, 0, none⟩) B.length c2) (s : ByteArray) (hx : a.eval x = .string s) (h63 : B.length + s.size ≤ 140737488355328)
    (h : ∀ g' c' B' w', Hid (B' = B ++ s.data.toList) → B'.length = B.length + s.size → Two w w' g1 c1 A g' c' B' → wpList Tryd.prog ops Q rest (a.put o.dst (.slice (some ⟨g', 0, none⟩) B'.length c')) w') : wpList Tryd.prog ops Q (o :: rest) a W := by
  refine wpList_append_str hgd sl x ho w.heap.size g2 c2 B.length (encB B) hs h2.own2 s hx h63 h2.below.size ?_
  intro g' c' w' h3 h4 h5
  have h6 := h2.more2 (l := s.data.toList) (by rw [text_len]; exact h3) h4 h5
  have hl : (B ++ s.data.toList).length = B.length + s.size := by rw [List.length_append, text_len]
  have := h g' c' (B ++ s.data.toList) w' rfl hl h6
  rw [hl] at this
  exact this
theorem wpTwo_one1 {w W : World} {ops : Array Oper} {rest : List Oper} {o : Oper} {a : Act} {Q : Exit → Act → World → Prop} (hgd : o.guard = none) (sl x : Operand)
    (ho : o.op = .call { callee := .builtin .append, args := #[sl, x], argTypes := #[32, 32] }) (g1 c1 : Nat) (A : List UInt8) (g2 c2 : Nat) (B : List UInt8) (h2 : Two w W g1 c1 A g2 c2 B) (hs : a.eval sl = .slice (some ⟨g1, 0, none⟩) A.length c1) (b : UInt8) (hx : a.eval x = .slice (some ⟨W.heap.size, 0, none⟩) 1 1) (h63 : A.length + 1 ≤ 140737488355328)
    (h : ∀ g' c' A' w', Hid (A' = A ++ [b]) → A'.length = A.length + 1 → Two w w' g' c' A' g2 c2 B → wpList Tryd.prog ops Q rest (a.put o.dst (.slice (some ⟨g', 0, none⟩) A'.length c')) w') : wpList Tryd.prog ops Q (o :: rest) a (W.alloc (.cells #[.int .u8 ((b.toNat : Nat) : Int)] 5)) := by
  refine wpList_append_one hgd sl x ho w.heap.size g1 c1 A.length (encB A) hs h2.own1 b hx h63 h2.below.size ?_
  intro g' c' w' h3 h4 h5
  have h6 := (h2.alloc _).more1 (l := [b]) h3 h4 h5
  have hl : (A ++ [b]).length = A.length + 1 := by rw [List.length_append]; rfl
  have := h g' c' (A ++ [b]) w' rfl hl h6
  rw [hl] at this
  exact this
theorem Two.start (w : World) : Two w ((w.alloc (.cells #[] 5)).alloc (.cells #[] 5)) w.heap.size 0 [] (w.heap.size + 1) 0 [] := by
  have h1 := (BaAt.start w)
  have h2 := (BaAt.start (w.alloc (.cells #[] 5)))
  rw [World.size_alloc] at h2
  refine ⟨h1.own.alloc _, ?_, by omega, h1.below.alloc h1.below.size _⟩
  have := h2.own
  rw [World.size_alloc] at this
  refine ⟨this.1, ?_⟩
  rcases this.2 with h | ⟨g, cap, cur, e, h3, h4⟩
  · exact .inl h
  · exact .inr ⟨g, cap, cur, e, by omega, h4⟩
set_option maxRecDepth 100000 in
set_option maxHeartbeats 8000000 in
theorem LexJoins_calls (x : Option Addr) (cap : Nat) (s : ByteArray) (w : World) (hv : BytesR w (.slice x s.size cap) s) (hT : Tabs w) (hs : s.size ≤ 9223372036854775807) :
    Calls Tryd.prog 6 #[.slice x s.size cap] w fun e w' => e = .returned (.bool true) ∧ Below w.heap.size w w' := by
  go_enter Tryd.func6, Tryd.ntmps6
  go_wp2_with fail
  refine (awake_calls w hT).mono ?_
  rintro e w0 ⟨rfl, hB0⟩
  have HL := hid_of (Lex_calls _ _ _ (hv.below hB0) (hT.below hB0) hs)
  go_wp2_with fail
  refine HL.out.mono ?_
  rintro e w1 ⟨hans, hB1⟩
  have hW1 : Below w.heap.size w w1 := below_step hB0 hB0.size hB1
  clear HL
  cases hl : lexA s with
  | error f =>
    rw [hl] at hans
    have hans : e = .returned (.tuple #[.slice none 0 0, .agg (fltC f)]) := hans
    subst hans
    have hc := lexA_err hl
    obtain ⟨fc, fl, fk⟩ := f
    have t1 : (((fc : Nat) : Int) != 0) = true := by
      simp only [bne_iff_ne, ne_eq]
      intro e
      exact hc (by simp only []; omega)
    clear hc hl
    simp only [fltC, fltA]
    go_wp2_with fail
    go_ret
    exact ⟨rfl, hW1.alloc hW1.size _⟩
  | ok toks =>
    rw [hl] at hans
    obtain ⟨v', rfl, hown⟩ := hans
    obtain ⟨hsz, hpl⟩ := lexA_places s toks hl
    have HS := hid_of (places_small s toks 0 0 hpl)
    have hn : 0 < toks.length := by
      cases toks with
      | nil => exact absurd hpl (fun h => h)
      | cons t ts => simp
    obtain ⟨gt, capt, rfl⟩ := tok_form hown hn
    simp only [fltC, noFlt, fltA]
    have hBA := (Below.refl w1.heap.size w1).alloc (Nat.le_refl _) (.cells #[.int .i64 0, .int .i64 0, .int .i64 0] 29)
    have hX := below_step hW1 hW1.size hBA
    have hown2 := ownsT_below hown hBA
    have htl : toks.length ≤ 9223372036854775807 := tok_few hown2
    have hmk1 := make_bytes (w1.alloc (.cells #[.int .i64 0, .int .i64 0, .int .i64 0] 29))
    have hmk2 := make_bytes ((w1.alloc (.cells #[.int .i64 0, .int .i64 0, .int .i64 0] 29)).alloc (.cells #[] 5))
    have hST := Two.start (w1.alloc (.cells #[.int .i64 0, .int .i64 0, .int .i64 0] 29))
    rw [World.size_alloc] at hmk1 hmk2 hST
    rw [World.size_alloc] at hmk2
    have HP := hid_of (join_plain s toks hl)
    have HQ := hid_of (join_lines s toks hl)
    clear hBA hown hpl hl hB1 hB0
    go_wp2_with fail
    clear hmk1 hmk2
    generalize (w1.alloc (.cells #[.int .i64 0, .int .i64 0, .int .i64 0] 29)) = W0 at *
    go_loopw [5, 6, 7] (fun p l i wr => ∃ n g1 c1 g2 c2 : Nat, n + 1 ≤ toks.length ∧ i = .int .i64 ((n : Nat) : Int) ∧ p = .slice (some ⟨g1, 0, none⟩) (joinL sep1 (toks.take n)).length c1 ∧ l = .slice (some ⟨g2, 0, none⟩) (joinL sep2 (toks.take n)).length c2 ∧ Two W0 wr g1 c1 (joinL sep1 (toks.take n)) g2 c2 (joinL sep2 (toks.take n))) (fun _ _ i _ => toks.length - (intOf i).toNat)
    case atStart => exact ⟨0, _, 0, _, 0, by omega, rfl, rfl, rfl, hST⟩
    case round =>
      clear hST
      obtain ⟨n, g1, c1, g2, c2, hn1, rfl, rfl, rfl, h2⟩ := hrel
      have w1' : wrap64 (((n : Nat) : Int) + 1) = ((n : Nat) : Int) + 1 := wrap_more n (by omega)
      by_cases hlt : n + 1 < toks.length
      · have k1 : ((n : Nat) : Int) + 1 < ((toks.length : Nat) : Int) := by omega
        by_cases hb1 : 65536 < (joinL sep1 (toks.take n)).length
        · have t1 : (65536 : Int) < (((joinL sep1 (toks.take n)).length : Nat) : Int) := by omega
          have hend := below_step hX hX.size h2.below
          generalize (joinL sep1 (toks.take n)) = A at *
          generalize (joinL sep2 (toks.take n)) = B at *
          go_wp2_with fail
          go_ret
          exact ⟨rfl, hend⟩
        · have t1 : ¬ (65536 : Int) < (((joinL sep1 (toks.take n)).length : Nat) : Int) := by omega
          by_cases hb2 : 65536 < (joinL sep2 (toks.take n)).length
          · have t2 : (65536 : Int) < (((joinL sep2 (toks.take n)).length : Nat) : Int) := by omega
            have hend := below_step hX hX.size h2.below
            generalize (joinL sep1 (toks.take n)) = A at *
            generalize (joinL sep2 (toks.take n)) = B at *
            go_wp2_with fail
            go_ret
            exact ⟨rfl, hend⟩
          · have t2 : ¬ (65536 : Int) < (((joinL sep2 (toks.take n)).length : Nat) : Int) := by omega
            obtain ⟨t, ht⟩ : ∃ t, toks[n]? = some t := ⟨_, List.getElem?_eq_getElem (by omega)⟩
            have hts : t.text.size ≤ 65536 := Nat.le_trans (HS.out t (List.mem_of_getElem? ht)) hsz
            have e1 := joinL_snoc sep1 toks n t ht
            have e2 := joinL_snoc sep2 toks n t ht
            have HE := hid_of (And.intro e1 e2)
            have hr0 : W0.cell? ⟨gt, n * 5 + 1, none⟩ = some (.string t.text) := tkn_at hown2 ht 1 (by omega)
            have hgt : gt < W0.heap.size := (hown2.lt gt rfl).2
            have r1 : wr.cell? ⟨gt, n * 5 + 1, none⟩ = some (.string t.text) := (h2.below.cell (p := ⟨gt, n * 5 + 1, none⟩) hgt).trans hr0
            have HR := hid_of hr0
            clear hr0 e1 e2 ht
            generalize hA0 : (joinL sep1 (toks.take n)) = A at *
            generalize hB0 : (joinL sep2 (toks.take n)) = B at *
            have i0 : (0 : Int) ≤ ((n : Nat) : Int) := by omega
            have i1 : ((n : Nat) : Int) < ((toks.length : Nat) : Int) := by omega
            generalize t.text = tt at *
            clear hA0 hB0
            go_wp2_with (first | (at_builtin; refine wpTwo_str1 rfl _ _ rfl g1 c1 A g2 c2 B h2 rfl tt rfl (by omega) ?_; intro g3 c3 A3 w3 HA3 hl3 h3; have HL3 := hid_of hl3; clear hl3) | (at_builtin; refine wpTwo_one1 rfl _ _ rfl g3 c3 A3 g2 c2 B h3 rfl 32 rfl (by have := HL3.out; omega) ?_; intro g4 c4 A4 w4 HA4 hl4 h4; clear hl4; have r4 : w4.cell? ⟨gt, n * 5 + 1, none⟩ = some (.string tt) := (h4.below.cell (p := ⟨gt, n * 5 + 1, none⟩) hgt).trans HR.out) | (at_builtin; refine wpTwo_str2 rfl _ _ rfl g4 c4 A4 g2 c2 B h4 rfl tt rfl (by omega) ?_; intro g5 c5 B5 w5 HB5 hl5 h5; have HL5 := hid_of hl5; clear hl5) | (at_builtin; refine wpTwo_str2 rfl _ _ rfl g4 c4 A4 g5 c5 B5 h5 rfl ⟨#[47, 47, 32, 206, 177, 10]⟩ rfl (by have := HL5.out; show B5.length + 6 ≤ _; omega) ?_; intro g6 c6 B6 w6 HB6 hl6 h6; clear hl6))
            have eA : A4 = joinL sep1 (toks.take (n + 1)) := by rw [HE.out.1, HA4.out, HA3.out]
            have eB : B6 = joinL sep2 (toks.take (n + 1)) := by rw [HE.out.2, HB6.out, HB5.out]
            rw [eA, eB] at h6
            exact ⟨⟨_, _, _, _, ⟨n + 1, by omega, by go_num, g4, c4, by rw [eA], g6, c6, by rw [eB], h6⟩, rfl, rfl, rfl, rfl⟩, by simp [intOf]; omega⟩
      · have k1 : ¬ ((n : Nat) : Int) + 1 < ((toks.length : Nat) : Int) := by omega
        have en : n = toks.length - 1 := by omega
        rw [← en] at HP HQ
        have sA : (⟨(joinL sep1 (toks.take n)).toArray⟩ : ByteArray).size = (joinL sep1 (toks.take n)).length := by show (joinL sep1 (toks.take n)).toArray.size = _; simp
        have sB : (⟨(joinL sep2 (toks.take n)).toArray⟩ : ByteArray).size = (joinL sep2 (toks.take n)).length := by show (joinL sep2 (toks.take n)).toArray.size = _; simp
        generalize (joinL sep1 (toks.take n)) = A at *
        generalize (joinL sep2 (toks.take n)) = B at *
        have hXr := below_step hX hX.size h2.below
        have HA1 := again_calls gt capt g1 c1 _ toks ⟨A.toArray⟩ false wr (ownsT_below hown2 h2.below) (own_bytes h2.own1) (hT.below hXr) (by rw [sA]; exact byte_few h2.own1) hn (fun hle => HP.out (by rw [sA] at hle; exact hle))
        rw [sA] at HA1
        have HA1 := hid_of HA1
        clear en HP
        go_wp2_with fail
        refine HA1.out.mono ?_
        rintro e w5 ⟨rfl, hB5⟩
        have h5 := h2.to hB5
        have hXr5 := below_step hXr hXr.size hB5
        have HA2 := again_calls gt capt g2 c2 _ toks ⟨B.toArray⟩ true w5 (ownsT_below (ownsT_below hown2 h2.below) hB5) (own_bytes h5.own2) (hT.below hXr5) (by rw [sB]; exact byte_few h5.own2) hn (fun hle => HQ.out (by rw [sB] at hle; exact hle))
        rw [sB] at HA2
        have HA2 := hid_of HA2
        clear HA1 HQ
        go_wp2_with fail
        refine HA2.out.mono ?_
        rintro e w6 ⟨rfl, hB6⟩
        have hXr6 := below_step hXr5 hXr5.size hB6
        clear HA2
        go_wp2_with fail
        go_ret
        exact ⟨rfl, hXr6⟩
theorem LexJoins_calls2 (x : Option Addr) (cap : Nat) (s : ByteArray) (w : World) (hv : BytesR w (.slice x s.size cap) s) (_ : s.size ≤ cap) (hT : Tabs w) (hs : s.size ≤ 9223372036854775807) :
    Calls Tryd.prog 6 #[.slice x s.size cap] w fun e w' => e = .returned (.bool true) ∧ Below w.heap.size w w' := LexJoins_calls x cap s w hv hT hs
end Go.Proofs.YtkgppagpjbkhmaaDoor
