/- The contract of Lex. -/
import Derived.Test.YtkgppagpjbkhmaaDoorLxTok
import Derived.Laws.IdiomStrings
import Derived.Laws.BytesArg
import Derived.Maps.AppendAt
import Derived.OwnWalk
namespace Go.Proofs.YtkgppagpjbkhmaaDoor
open Go.RowKit Go.Shelf

def lexK : Nat → ByteArray → Nat → Nat → List Tok → Except Flt (List Tok)
  | 0, _, _, _, acc => .ok acc
  | f + 1, s, l, k, acc =>
    if (tokR (betA s l k).1 (betA s l k).2.1 (betA s l k).2.2).flt.code ≠ 0 then .error (tokR (betA s l k).1 (betA s l k).2.1 (betA s l k).2.2).flt
    else if (tokR (betA s l k).1 (betA s l k).2.1 (betA s l k).2.2).tok.kind = 5 then .ok (acc ++ [(tokR (betA s l k).1 (betA s l k).2.1 (betA s l k).2.2).tok])
    else lexK f (tokR (betA s l k).1 (betA s l k).2.1 (betA s l k).2.2).rest (betA s l k).2.1 (tokR (betA s l k).1 (betA s l k).2.1 (betA s l k).2.2).col (acc ++ [(tokR (betA s l k).1 (betA s l k).2.1 (betA s l k).2.2).tok])
def lexA (s : ByteArray) : Except Flt (List Tok) := if 65536 < s.size then .error ⟨32, 1, 1⟩ else lexK (s.size + 1) s 1 1 []
theorem betK_bound (B : Nat) : ∀ (f : Nat) (s : ByteArray) (l k : Nat), s.size + l ≤ B → s.size + k ≤ B → (betK f s l k).1.size ≤ s.size ∧ (betK f s l k).1.size + (betK f s l k).2.1 ≤ B ∧ (betK f s l k).1.size + (betK f s l k).2.2 ≤ B := by
  intro f
  induction f with
  | zero => intro s l k h1 h2; exact ⟨Nat.le_refl _, h1, h2⟩
  | succ f ih =>
    intro s l k h1 h2
    unfold betK
    split
    · exact ⟨Nat.le_refl _, h1, h2⟩
    · have d1 := dropB_size s 1
      split
      · have := ih (dropB s 1) (l + 1) 1 (by omega) (by omega)
        exact ⟨by omega, this.2⟩
      · split
        · have := ih (dropB s 1) l (k + 1) (by omega) (by omega)
          exact ⟨by omega, this.2⟩
        · split
          · have d2 := dropB_size s (remA s).1
            have d3 := remA_le s
            have := ih (dropB s (remA s).1) l (k + (remA s).2) (by omega) (by omega)
            exact ⟨by omega, this.2⟩
          · exact ⟨Nat.le_refl _, h1, h2⟩
theorem numG_bound (s : ByteArray) (l k a : Nat) (g : Nat × Nat × Bool) (hg : a + g.1 ≤ s.size) : (numG s l k a g).rest.size + (numG s l k a g).col ≤ s.size + k ∧ ((numG s l k a g).flt.code = 0 → (numG s l k a g).tok.kind = 2 ∧ (numG s l k a g).rest.size < s.size) ∧ (numG s l k a g).flt.code ≤ 20 := by
  unfold numG
  split
  · exact ⟨Nat.le_refl _, (fun e => by cases e), Nat.le_refl _⟩
  · split
    · exact ⟨Nat.le_refl _, (fun e => by cases e), Nat.le_refl _⟩
    · split
      · exact ⟨Nat.le_refl _, (fun e => by cases e), Nat.le_refl _⟩
      · simp only [dropB_size, noFlt]
        exact ⟨by omega, (fun _ => ⟨by trivial, by omega⟩), by omega⟩
theorem numR_bound (s : ByteArray) (l k : Nat) : (numR s l k).rest.size + (numR s l k).col ≤ s.size + k ∧ ((numR s l k).flt.code = 0 → (numR s l k).tok.kind = 2 ∧ (numR s l k).rest.size < s.size) ∧ (numR s l k).flt.code ≤ 20 := by
  unfold numR
  split
  · rename_i h
    have h2 : 2 ≤ s.size := by
      unfold hexB at h
      rw [Bool.or_eq_true] at h
      rcases h with h | h
      · exact pre_size s _ _ h
      · exact pre_size s _ _ h
    have := digA_le (dropB s 2) 16
    rw [dropB_size] at this
    unfold numK
    exact numG_bound s l k 2 _ (by omega)
  · have := digA_le (dropB s 0) 10
    rw [dropB_size] at this
    unfold numK
    exact numG_bound s l k 0 _ (by omega)
theorem tokR_bound (s : ByteArray) (l k : Nat) : (tokR s l k).rest.size + (tokR s l k).col ≤ s.size + k ∧ ((tokR s l k).flt.code = 0 → (tokR s l k).tok.kind ≠ 5 → (tokR s l k).rest.size < s.size) := by
  unfold tokR
  split
  · simp only [dropB_size]
    exact ⟨by omega, fun _ h => absurd rfl h⟩
  · split
    · have := nameA_le s
      simp only [dropB_size]
      exact ⟨by omega, fun _ _ => by omega⟩
    · split
      · have := signA_le s
        simp only [dropB_size]
        exact ⟨by omega, fun _ _ => by omega⟩
      · split
        · have := numR_bound s l k
          exact ⟨this.1, fun h _ => (this.2.1 h).2⟩
        · exact ⟨Nat.le_refl _, fun e => by cases e⟩
/-- A list of bytes that was handed in. -/
def BytesR (w : World) (v : Value) (s : ByteArray) : Prop := (∃ x cap, v = .slice x 0 cap ∧ s = ⟨#[]⟩) ∨ ∃ g o cap, v = .slice (some ⟨g, o, none⟩) s.size cap ∧ g < w.heap.size ∧ ∀ j (hj : j < s.data.toList.length), w.cell? ⟨g, o + j, none⟩ = some (.int .u8 ((s.data.toList[j].toNat : Nat) : Int))
theorem BytesR.below {w w' : World} {v : Value} {s : ByteArray} (h : BytesR w v s) (hb : Below w.heap.size w w') : BytesR w' v s := by
  rcases h with h | ⟨g, o, cap, h1, h2, h3⟩
  · exact .inl h
  · exact .inr ⟨g, o, cap, h1, Nat.lt_of_lt_of_le h2 hb.size, fun j hj => (hb.cell (p := ⟨g, o + j, none⟩) h2).trans (h3 j hj)⟩
theorem BytesR.form {w : World} {v : Value} {s : ByteArray} (h : BytesR w v s) : ∃ x cap, v = .slice x s.size cap := by
  rcases h with ⟨x, cap, h, rfl⟩ | ⟨g, o, cap, h, _⟩
  · exact ⟨x, cap, h⟩
  · exact ⟨_, cap, h⟩
theorem conv_bytes {w : World} {v : Value} {s : ByteArray} (h : BytesR w v s) : (convert 32 9 v).run Tryd.prog w = .ok (.string s) w := by
  rcases h with ⟨x, cap, rfl, rfl⟩ | ⟨g, o, cap, rfl, _, h3⟩
  · cases x with
    | none => exact run_convert_bytes_nil (P := Tryd.prog) w 32 5 Tryd.underlying32 Tryd.underlying5 0 cap 9 Tryd.underlying9
    | some a => exact run_convert_bytes_back (P := Tryd.prog) w 32 9 5 a cap [] Tryd.underlying32 Tryd.underlying5 Tryd.underlying9 (fun j hj => by simp at hj)
  · have := run_convert_bytes_back (P := Tryd.prog) w 32 9 5 ⟨g, o, none⟩ cap s.data.toList Tryd.underlying32 Tryd.underlying5 Tryd.underlying9 (fun j hj => by rw [Addr.add_lit]; exact h3 j hj)
    exact this
def encT (l : List Tok) : List Value := l.flatMap (fun t => (tokC t).toList)
theorem encT_snoc (l : List Tok) (t : Tok) : encT (l ++ [t]) = encT l ++ (tokC t).toList := by simp [encT]
theorem Tryd.infotok : (Tryd.prog.info? 35).map (fun i => (i.zero, i.size, i.bytes)) = some (some (.agg #[.int .i64 0, .string ⟨#[]⟩, .int .u64 0, .int .i64 0, .int .i64 0]), 5, 48) := by kernel_rfl
/-- What Lex answers. -/
def LexAns (w : World) (r : Except Flt (List Tok)) (e : Ending) (w' : World) : Prop :=
  (match r with
    | .error f => e = .returned (.tuple #[.slice none 0 0, .agg (fltC f)])
    | .ok l => ∃ v, e = .returned (.tuple #[v, .agg (fltC noFlt)]) ∧ w'.ownsRow w.heap.size 35 5 v l.length (encT l)) ∧ Below w.heap.size w w'
theorem owns_but {c : Nat} {w w' : World} {base : Nat} {v : Value} {n : Nat} {xs : List Value} (h : w.ownsRow base 35 5 v n xs) (hb : But c w w') (hc : c < base) : w'.ownsRow base 35 5 v n xs := by
  refine ⟨h.1, ?_⟩
  rcases h.2 with h2 | ⟨g, cap, cur, rfl, h4, h5, h6⟩
  · exact .inl h2
  · exact .inr ⟨g, cap, cur, rfl, h4, (hb.block g (Blk.lt (t := 35) (cs := cur) h5) (by omega)).trans h5, h6⟩
/-- Where Lex stands between two tokens. -/
structure LAt (w W : World) (s : ByteArray) (l k : Nat) (v : Value) (acc : List Tok) : Prop where
  cut : Cut W (w.heap.size + 1) s l k
  flt : Blk W w.heap.size 29 (fltC noFlt)
  own : W.ownsRow (w.heap.size + 2) 35 5 v acc.length (encT acc)
  below : Below w.heap.size w W
  size : w.heap.size + 2 ≤ W.heap.size
theorem LAt.step {w W W' : World} {s s' : ByteArray} {l k l' k' : Nat} {v : Value} {acc : List Tok} (h : LAt w W s l k v acc) (hc : Cut W' (w.heap.size + 1) s' l' k') (hb : But (w.heap.size + 1) W W') : LAt w W' s' l' k' v acc :=
  ⟨hc, h.flt.but hb (by omega), owns_but h.own hb (by omega), h.below.trans (hb.below (by omega) (by have := h.size; omega)), Nat.le_trans h.size hb.size⟩
theorem news_tok (w : World) (t : Tok) {n : Nat} (hn : w.heap.size = n) : ∀ j u, (tokC t).toList[j]? = some u → (w.alloc (.cells (tokC t) 35)).cell? ((⟨n, 0, none⟩ : Addr).add j) = some u := by
  intro j u hj
  subst hn
  rw [Addr.add_lit, Nat.zero_add]
  exact (Blk.new w 35 (tokC t)).cell (by simpa using hj)
theorem LAt.more {w W W' : World} {s : ByteArray} {l k : Nat} {v v' : Value} {acc : List Tok} {t : Tok} {o : Obj} (h : LAt w W s l k v acc) (hown : W'.ownsRow (w.heap.size + 2) 35 5 v' (acc.length + 1) (encT acc ++ (tokC t).toList)) (hg : (W.alloc o).grownBy W' v.ownBlock) : LAt w W' s l k v' (acc ++ [t]) := by
  have hz := h.size
  have hz2 := hg.size
  rw [World.size_alloc] at hz2
  refine ⟨(hg.block _ (by simp; omega) (fun e => by have := (h.own.lt _ e.symm).1; omega)).trans (Blk.alloc h.cut _), (hg.block _ (by simp; omega) (fun e => by have := (h.own.lt _ e.symm).1; omega)).trans (h.flt.alloc _), ?_, (h.below.alloc h.below.size _).grown hg (by simp; omega) (fun k e => by have := (h.own.lt k e).1; omega), by omega⟩
  rw [encT_snoc, List.length_append]
  exact hown
theorem ret_lex {tmps : Array Value} {w : World} {g : Nat} {v : Value} (hv : tmps.getD 2 undef = v) (hp : tmps.getD 3 undef = pv g) (f : Flt) (hg : Blk w g 29 (fltC f)) :
    (results Tryd.f12 tmps).run Tryd.prog w = .ok (.tuple #[v, .agg (fltC f)]) w := by
  have h1 := run_loadVar_row (P := Tryd.prog) w g 29 29 (fltC f) (0, 0) _ hg Tryd.underlying29 rfl (by kernel_rfl)
  subst hv
  have hp' : tmps[3]?.getD undef = pv g := by simpa using hp
  simp [results, Tryd.results12, hp', asAddr, h1]
set_option maxRecDepth 100000 in
set_option maxHeartbeats 8000000 in
theorem Lex_calls (v : Value) (s0 : ByteArray) (w : World) (hv : BytesR w v s0) (hT : Tabs w) (hs0 : s0.size ≤ 9223372036854775807) :
    Calls Tryd.prog 12 #[v] w (LexAns w (lexA s0)) := by
  have hcv := conv_bytes (hv.below ((Below.refl w.heap.size w).alloc (Nat.le_refl _) (.cells #[.int .i64 0, .int .i64 0, .int .i64 0] 29)))
  obtain ⟨x, cap, rfl⟩ := hv.form
  by_cases hbig : 65536 < s0.size
  · have HR : Hid (lexA s0 = .error ⟨32, 1, 1⟩) := if_pos hbig
    have hb2 : (65536 : Int) < ((s0.size : Nat) : Int) := by omega
    go_enter Tryd.func12, Tryd.ntmps12
    go_wp2_with fail
    exact bodyPost_ret (ret_lex rfl rfl ⟨32, 1, 1⟩ (Blk.new w 29 _)) rfl (by rw [HR.out]; exact ⟨rfl, (Below.refl _ w).alloc (Nat.le_refl _) _⟩)
  · have hb2 : ¬ (65536 : Int) < ((s0.size : Nat) : Int) := by omega
    have HR : Hid (lexA s0 = lexK (s0.size + 1) s0 1 1 []) := if_neg hbig
    obtain ⟨i0, hi, hz0, hz1, hz2⟩ := info_parts Tryd.infotok
    have hA : LAt w ((w.alloc (.cells #[.int .i64 0, .int .i64 0, .int .i64 0] 29)).alloc (.cells (cutA s0 1 1) 54)) s0 1 1 (.slice none 0 0) [] := by
      refine ⟨?_, (Blk.new w _ _).alloc _, World.ownsRow_nil _ _ _ _, ((Below.refl _ w).alloc (Nat.le_refl _) _).alloc (by simp) _, by simp⟩
      have := Blk.new (w.alloc (.cells #[.int .i64 0, .int .i64 0, .int .i64 0] 29)) 54 (cutA s0 1 1)
      rwa [World.size_alloc] at this
    have HA := hid_of hA
    have h2w := hT.lt
    clear hA hv
    go_enter Tryd.func12, Tryd.ntmps12
    go_wp2_with fail
    go_loopg [5] (s0.size + 1) (fun f vt wr => ∃ (s : ByteArray) (l k : Nat) (acc : List Tok), s.size + 1 ≤ f ∧ s.size + l ≤ 70000 ∧ s.size + k ≤ 70000 ∧ acc.length + f ≤ s0.size + 1 ∧ LAt w wr s l k vt acc ∧ Hid (lexA s0 = lexK f s l k acc))
    case atStart => exact ⟨s0, 1, 1, [], by omega, by omega, by omega, by simp, HA.out, HR.out⟩
    case round =>
      clear HA HR hcv hbig
      obtain ⟨s, l, k, acc, hf, hbl, hbk, hacc, hA, HR⟩ := hrel
      obtain ⟨f, rfl⟩ : ∃ f, gk = f + 1 := ⟨gk - 1, by omega⟩
      have hbB := betK_bound 70000 s.size s l k hbl hbk
      have HR2 : Hid (lexA s0 = _) := HR.out
      unfold lexK at HR2
      go_wp2_with fail
      refine (passBetween_calls _ s l k _ hA.cut ⟨hbl, hbk⟩).mono ?_
      change (betA s l k).1.size ≤ s.size ∧ (betA s l k).1.size + (betA s l k).2.1 ≤ 70000 ∧ (betA s l k).1.size + (betA s l k).2.2 ≤ 70000 at hbB
      rintro e w1 ⟨⟨r, rfl⟩, hC1, hB1⟩
      generalize (betA s l k).1 = s1 at *
      generalize (betA s l k).2.1 = l1 at *
      generalize (betA s l k).2.2 = k1 at *
      have hA1 := hA.step hC1 hB1
      have hT1 := hT.step hA1.below h2w
      clear hA hC1 hB1 HR
      have htb := tokR_bound s1 l1 k1
      go_wp2_with fail
      refine (token_calls _ s1 l1 k1 _ hA1.cut hT1 (by omega) (by omega)).mono ?_
      rintro e w2 ⟨rfl, hC2, hB2⟩
      generalize tokR s1 l1 k1 = R at *
      obtain ⟨⟨tk, tt, tv, tl, tc⟩, ⟨fc, fl, fk⟩, rest, col⟩ := R
      have hA2 := hA1.step hC2 hB2
      clear hA1 hC2 hB2
      simp only [] at HR2 htb hA2
      simp only [tokC, fltC, tokA, fltA]
      have hW : Below w2.heap.size w2 ((w2.alloc (.cells (tokA tk tt tv tl tc) 35)).alloc (.cells (fltA fc fl fk) 29)) := ((Below.refl _ _).alloc (Nat.le_refl _) _).alloc (by simp) _
      by_cases hfc : fc = 0
      · have t1 : (((fc : Nat) : Int) != 0) = false := by simp [hfc]
        have HE : Hid (lexA s0 = _) := HR2.out.trans (if_neg (fun e => e hfc))
        have htb2 := htb.2 hfc
        clear hfc HR2
        have hA3 : LAt w ((w2.alloc (.cells (tokA tk tt tv tl tc) 35)).alloc (.cells (fltA fc fl fk) 29)) rest l1 col u5 acc := hA2.step (Blk.of_below hA2.cut hW) (But.of_below hW)
        have hBx : Blk ((w2.alloc (.cells (tokA tk tt tv tl tc) 35)).alloc (.cells (fltA fc fl fk) 29)) w2.heap.size 35 (tokA tk tt tv tl tc) := (Blk.new w2 _ _).alloc _
        have hux : ∀ g, u5.ownBlock = some g → g < w2.heap.size := fun g hg => (hA2.own.lt g hg).2
        have HA3 := hid_of hA3
        have HBx := hid_of hBx
        clear hA3 hBx
        have hzz := hA2.size
        by_cases hk5 : tk = 5
        · have t5 : (((tk : Nat) : Int) == 5) = true := by simp [hk5]
          have HE2 : Hid (lexA s0 = .ok (acc ++ [⟨tk, tt, tv, tl, tc⟩])) := HE.out.trans (if_pos hk5)
          clear hk5 HE
          go_wp2_with (first | (at_builtin; refine wpList_append_own_at _ rfl _ _ 26 rfl (w.heap.size + 2) 35 i0 (.agg #[.int .i64 0, .string ⟨#[]⟩, .int .u64 0, .int .i64 0, .int .i64 0]) 5 48 Tryd.underlying26 hi hz0 hz1 hz2 rfl (by decide) u5 acc.length (encT acc) rfl (HA3.out.own.alloc _) ⟨_, 0, none⟩ 1 1 (tokC ⟨tk, tt, tv, tl, tc⟩).toList rfl rfl (news_tok ((w2.alloc (.cells (tokA tk tt tv tl tc) 35)).alloc (.cells (fltA fc fl fk) 29)) ⟨tk, tt, tv, tl, tc⟩ (by simp)) (by simp [tokC, Value.oneCell']) (by unfold maxLen; omega) (by omega) (by simp; omega) ?_; intro v' w5 hown' hgrow _ _; have hA5 := HA3.out.more (t := ⟨tk, tt, tv, tl, tc⟩) hown' hgrow; have hB5 : Blk w5 w2.heap.size 35 (tokA tk tt tv tl tc) := (hgrow.block _ (by simp; omega) (fun e => by have := hux _ e.symm; omega)).trans (Blk.alloc HBx.out _); have k0 : w5.cell? ⟨w2.heap.size, 0, none⟩ = some (.int .i64 ((tk : Nat) : Int)) := hB5.cell rfl) | refine wpList_store_row rfl 29 _ _ rfl w.heap.size (fltC noFlt) rfl rfl 29 _ hA5.flt (by kernel_rfl) rfl (all_flt _) ?_)
          have hown5 := hA5.own
          have hW5 := hA5.flt.row (fltC noFlt)
          refine bodyPost_ret (ret_lex rfl rfl noFlt hW5) rfl ?_
          rw [HE2.out]
          refine ⟨⟨_, rfl, ?_⟩, ?_⟩
          · refine ⟨hown5.1, ?_⟩
            rcases hown5.2 with h2 | ⟨g, cap, cur, h3, h4, h5, h6⟩
            · exact .inl h2
            · exact .inr ⟨g, cap, cur, h3, by omega, (setRow_other w5 w.heap.size g (fltC noFlt) (by omega)).trans h5, h6⟩
          · exact ⟨hA5.below.os, hA5.below.tape, hA5.below.output, by rw [setRow_size]; exact hA5.below.size, fun k hk => (setRow_other w5 w.heap.size k (fltC noFlt) (by omega)).trans (hA5.below.block k hk)⟩
        · have t5 : (((tk : Nat) : Int) == 5) = false := by rw [beq_eq_false_iff_ne]; omega
          have HE2 : Hid (lexA s0 = lexK f rest l1 col (acc ++ [⟨tk, tt, tv, tl, tc⟩])) := HE.out.trans (if_neg hk5)
          have htb3 := htb2 hk5
          clear hk5 HE
          go_wp2_with (at_builtin; refine wpList_append_own_at _ rfl _ _ 26 rfl (w.heap.size + 2) 35 i0 (.agg #[.int .i64 0, .string ⟨#[]⟩, .int .u64 0, .int .i64 0, .int .i64 0]) 5 48 Tryd.underlying26 hi hz0 hz1 hz2 rfl (by decide) u5 acc.length (encT acc) rfl (HA3.out.own.alloc _) ⟨_, 0, none⟩ 1 1 (tokC ⟨tk, tt, tv, tl, tc⟩).toList rfl rfl (news_tok ((w2.alloc (.cells (tokA tk tt tv tl tc) 35)).alloc (.cells (fltA fc fl fk) 29)) ⟨tk, tt, tv, tl, tc⟩ (by simp)) (by simp [tokC, Value.oneCell']) (by unfold maxLen; omega) (by omega) (by simp; omega) ?_; intro v' w5 hown' hgrow _ _; have hA5 := HA3.out.more (t := ⟨tk, tt, tv, tl, tc⟩) hown' hgrow; have hB5 : Blk w5 w2.heap.size 35 (tokA tk tt tv tl tc) := (hgrow.block _ (by simp; omega) (fun e => by have := hux _ e.symm; omega)).trans (Blk.alloc HBx.out _); have k0 : w5.cell? ⟨w2.heap.size, 0, none⟩ = some (.int .i64 ((tk : Nat) : Int)) := hB5.cell rfl)
          go_roundg f
          case measure => omega
          case rel => exact ⟨rest, l1, col, acc ++ [(⟨tk, tt, tv, tl, tc⟩ : Tok)], by omega, by omega, by omega, by simp; omega, hA5, HE2.out⟩
      · have t1 : (((fc : Nat) : Int) != 0) = true := by simp; omega
        have HE : Hid (lexA s0 = .error ⟨fc, fl, fk⟩) := HR2.out.trans (if_pos hfc)
        go_wp2_with fail
        have hW2 : LAt w ((w2.alloc (.cells (tokA tk tt tv tl tc) 35)).alloc (.cells (fltA fc fl fk) 29)) rest l1 col u5 acc := hA2.step (Blk.of_below hA2.cut hW) (But.of_below hW)
        have hF : Blk ((w2.alloc (.cells (tokA tk tt tv tl tc) 35)).alloc (.cells (fltA fc fl fk) 29)) (w2.heap.size + 1) 29 (fltA fc fl fk) := by
          have := Blk.new (w2.alloc (.cells (tokA tk tt tv tl tc) 35)) 29 (fltA fc fl fk)
          rwa [World.size_alloc] at this
        generalize ((w2.alloc (.cells (tokA tk tt tv tl tc) 35)).alloc (.cells (fltA fc fl fk) 29)) = W at *
        have d0 : W.cell? ⟨w2.heap.size + 1, 0, none⟩ = some (.int .i64 ((fc : Nat) : Int)) := hF.cell rfl
        have d1 : W.cell? ⟨w2.heap.size + 1, 1, none⟩ = some (.int .i64 ((fl : Nat) : Int)) := hF.cell rfl
        have d2 : W.cell? ⟨w2.heap.size + 1, 2, none⟩ = some (.int .i64 ((fk : Nat) : Int)) := hF.cell rfl
        have e0 : W.cell? ⟨w.heap.size, 0, none⟩ = some (.int .i64 0) := hW2.flt.cell rfl
        have e1 : W.cell? ⟨w.heap.size, 1, none⟩ = some (.int .i64 0) := hW2.flt.cell rfl
        have e2 : W.cell? ⟨w.heap.size, 2, none⟩ = some (.int .i64 0) := hW2.flt.cell rfl
        have f0 := hW2.flt.frozen 0
        have f1 := hW2.flt.frozen 1
        have f2 := hW2.flt.frozen 2
        have hzz := hA2.size
        have hnn : ¬ w2.heap.size + 1 = w.heap.size := by omega
        go_region_held3 (fun w' => w'.cell? ⟨w2.heap.size + 1, 0, none⟩ = some (.int .i64 ((fc : Nat) : Int)) ∧ w'.cell? ⟨w2.heap.size + 1, 1, none⟩ = some (.int .i64 ((fl : Nat) : Int)) ∧ w'.cell? ⟨w2.heap.size + 1, 2, none⟩ = some (.int .i64 ((fk : Nat) : Int))) (first | assumption | exact ⟨d0, d1, d2⟩ | exact ⟨((((hF.drew.setOther (by simpa using hnn) _).setOther (by simpa using hnn) _).setOther (by simpa using hnn) _)).cell rfl, ((((hF.drew.setOther (by simpa using hnn) _).setOther (by simpa using hnn) _).setOther (by simpa using hnn) _)).cell rfl, ((((hF.drew.setOther (by simpa using hnn) _).setOther (by simpa using hnn) _).setOther (by simpa using hnn) _)).cell rfl⟩) (fail)
        rename_i hHeld
        clear hHeld
        go_wp2_with fail
        have hG : Blk ((((W.setCell ⟨w.heap.size, 0, none⟩ (.int .i64 ((fc : Nat) : Int))).setCell ⟨w.heap.size, 1, none⟩ (.int .i64 ((fl : Nat) : Int))).setCell ⟨w.heap.size, 2, none⟩ (.int .i64 ((fk : Nat) : Int))).drew) w.heap.size 29 (fltC ⟨fc, fl, fk⟩) := ((hW2.flt.set 0 (.int .i64 ((fc : Nat) : Int))).set 1 (.int .i64 ((fl : Nat) : Int))).set 2 (.int .i64 ((fk : Nat) : Int))
        exact bodyPost_ret (ret_lex rfl rfl ⟨fc, fl, fk⟩ hG) rfl (by rw [HE.out]; exact ⟨rfl, (((hW2.below.setCell (by simp) _).setCell (by simp) _).setCell (by simp) _).drew⟩)
end Go.Proofs.YtkgppagpjbkhmaaDoor
