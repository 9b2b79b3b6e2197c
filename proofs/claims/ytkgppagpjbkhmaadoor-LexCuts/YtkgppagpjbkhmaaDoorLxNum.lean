/- The contract of number. -/
import Derived.Test.YtkgppagpjbkhmaaDoorLxBet
namespace Go.Proofs.YtkgppagpjbkhmaaDoor
open Go.RowKit Go.Shelf

structure Tok where
  kind : Nat
  text : ByteArray
  val : Nat
  line : Nat
  col : Nat
structure Flt where
  code : Nat
  line : Nat
  col : Nat
/-- What a token's call leaves: the token, the fault, what is left of the text, the column. -/
structure TR where
  tok : Tok
  flt : Flt
  rest : ByteArray
  col : Nat
def tokC (t : Tok) : Array Value := tokA t.kind t.text t.val t.line t.col
def fltC (f : Flt) : Array Value := fltA f.code f.line f.col
def noTok : Tok := ⟨0, ⟨#[]⟩, 0, 0, 0⟩
def noFlt : Flt := ⟨0, 0, 0⟩
def hexB (s : ByteArray) : Bool := Lib.hasPrefix s.data.toList [48, 120] || Lib.hasPrefix s.data.toList [48, 88]
def numG (s : ByteArray) (l k a : Nat) (g : Nat × Nat × Bool) : TR :=
  if g.1 = 0 then ⟨noTok, ⟨20, l, k + a⟩, s, k⟩
  else if g.2.2 = false then ⟨noTok, ⟨20, l, k + 0⟩, s, k⟩
  else if letterB (Lib.decodeGo (dropB s (a + g.1))).1 = true then ⟨noTok, ⟨20, l, k + (a + g.1)⟩, s, k⟩
  else ⟨⟨2, s.extract 0 (a + g.1), g.2.1, l, k⟩, noFlt, dropB s (a + g.1), k + (a + g.1)⟩
def numK (s : ByteArray) (l k a base : Nat) : TR := numG s l k a (digA (dropB s a) base)
def numR (s : ByteArray) (l k : Nat) : TR := if hexB s = true then numK s l k 2 16 else numK s l k 0 10
theorem digK_le (s : ByteArray) (base : Nat) : ∀ f pos v ok, pos ≤ s.size → (digK s base f pos v ok).1 ≤ s.size := by
  intro f
  induction f with
  | zero => intro pos v ok h; exact Nat.le_refl _
  | succ f ih =>
    intro pos v ok h
    unfold digK
    split
    · rename_i hp
      split
      · exact h
      · exact ih _ _ _ (dec_le s pos hp)
    · exact Nat.le_refl _
theorem digA_le (s : ByteArray) (base : Nat) : (digA s base).1 ≤ s.size := digK_le s base _ _ _ _ (Nat.zero_le _)
theorem results_cc {fn : Func} {p q : Tmp} {ty u : TypeId} (h : fn.results = #[.cell p ty, .cell q u]) (tmps : Array Value) (P : Program) (w : World) :
    (results fn tmps).run P w =
      ((asAddr (tmps.getD p undef)).run P w).andThen fun a w₁ => ((loadVar ty a).run P w₁).andThen fun v w₂ => ((asAddr (tmps.getD q undef)).run P w₂).andThen fun a₂ w₃ => ((loadVar u a₂).run P w₃).andThen fun v₂ w₄ => .ok (.tuple #[v, v₂]) w₄ := by
  simp only [results, h]
  simp [Sem.run_bind, Result.andThen]
theorem ret_tf {fn : Func} (h : fn.results = #[.cell 2 35, .cell 3 29]) {tmps : Array Value} {w : World} {g e : Nat} (hp : tmps.getD 2 undef = pv g) (hq : tmps.getD 3 undef = pv e) (t : Tok) (f : Flt) (hg : Blk w g 35 (tokC t)) (he : Blk w e 29 (fltC f)) :
    (results fn tmps).run Tryd.prog w = .ok (.tuple #[.agg (tokC t), .agg (fltC f)]) w := by
  rw [results_cc h, hp, hq]
  have h1 := run_loadVar_row (P := Tryd.prog) w g 35 35 (tokC t) (0, 0) _ hg Tryd.underlying35 rfl (by kernel_rfl)
  have h2 := run_loadVar_row (P := Tryd.prog) w e 29 29 (fltC f) (0, 0) _ he Tryd.underlying29 rfl (by kernel_rfl)
  simp [asAddr, Result.andThen, h1, h2]
/-- Where a token's call stands: its two result cells, and the cutter. -/
structure TAt (c : Nat) (w W : World) (s : ByteArray) (l k : Nat) (t : Tok) (f : Flt) : Prop where
  cut : Cut W c s l k
  tok : Blk W w.heap.size 35 (tokC t)
  flt : Blk W (w.heap.size + 1) 29 (fltC f)
  but : But c w W
  lt : c < w.heap.size
theorem TAt.begin {c : Nat} {w : World} {s : ByteArray} {l k : Nat} (h : Cut w c s l k) : TAt c w ((w.alloc (.cells #[.int .i64 0, .string ⟨#[]⟩, .int .u64 0, .int .i64 0, .int .i64 0] 35)).alloc (.cells #[.int .i64 0, .int .i64 0, .int .i64 0] 29)) s l k noTok noFlt := by
  refine ⟨Blk.alloc (Blk.alloc h _) _, (Blk.new w _ _).alloc _, ?_, ((But.refl c w).alloc _).alloc _, Blk.lt h⟩
  have := Blk.new (w.alloc (.cells #[.int .i64 0, .string ⟨#[]⟩, .int .u64 0, .int .i64 0, .int .i64 0] 35)) 29 #[.int .i64 0, .int .i64 0, .int .i64 0]
  rwa [World.size_alloc] at this
theorem TAt.step {c : Nat} {w W W' : World} {s s' : ByteArray} {l k l' k' : Nat} {t : Tok} {f : Flt} (h : TAt c w W s l k t f) (hc : Cut W' c s' l' k') (hb : But c W W') : TAt c w W' s' l' k' t f :=
  ⟨hc, h.tok.but hb (by have := h.lt; omega), h.flt.but hb (by have := h.lt; omega), h.but.trans hb, h.lt⟩
theorem TAt.below {c : Nat} {w W W' : World} {s : ByteArray} {l k : Nat} {t : Tok} {f : Flt} (h : TAt c w W s l k t f) (hb : Below W.heap.size W W') : TAt c w W' s l k t f :=
  h.step (Blk.of_below h.cut hb) (But.of_below hb)
theorem TAt.setT {c : Nat} {w W : World} {s : ByteArray} {l k : Nat} {t : Tok} {f : Flt} (h : TAt c w W s l k t f) (t' : Tok) : TAt c w (W.setRow w.heap.size (tokC t')) s l k t' f :=
  ⟨Blk.rowOther h.cut (by have := h.lt; omega) _, h.tok.row _, h.flt.rowOther (by omega) _, h.but.row (Nat.le_refl _) _, h.lt⟩
theorem TAt.setF {c : Nat} {w W : World} {s : ByteArray} {l k : Nat} {t : Tok} {f : Flt} (h : TAt c w W s l k t f) (f' : Flt) : TAt c w (W.setRow (w.heap.size + 1) (fltC f')) s l k t f' :=
  ⟨Blk.rowOther h.cut (by have := h.lt; omega) _, h.tok.rowOther (by omega) _, h.flt.row _, h.but.row (by omega) _, h.lt⟩
theorem all_tok (t : Tok) : (tokC t).all (·.oneCell') = true := by simp [tokC, Value.oneCell']
theorem all_flt (f : Flt) : (fltC f).all (·.oneCell') = true := by simp [fltC, Value.oneCell']
/-- What a token's call answers. -/
def TokAns (c : Nat) (w : World) (l : Nat) (r : TR) (e : Ending) (w' : World) : Prop := e = .returned (.tuple #[.agg (tokC r.tok), .agg (fltC r.flt)]) ∧ Cut w' c r.rest l r.col ∧ But c w w'
theorem dropB_zero (s : ByteArray) : dropB s 0 = s := by
  unfold dropB
  exact ByteArray.extract_zero_size
theorem pre_size (s : ByteArray) (a b : UInt8) (h : Lib.hasPrefix s.data.toList [a, b] = true) : 2 ≤ s.size := by
  obtain ⟨⟨l⟩⟩ := s
  match l, h with
  | [], h => cases h
  | [x], h => simp [Lib.hasPrefix] at h
  | x :: y :: l, _ => simp [ByteArray.size]
set_option maxRecDepth 100000 in
set_option maxHeartbeats 8000000 in
theorem number_calls (c : Nat) (s : ByteArray) (l k : Nat) (w : World) (h : Cut w c s l k) (hT : ∀ W, But c w W → Lib.Utf8Tabs 1 2 W) (hs : s.size + k ≤ 100000) :
    Calls Tryd.prog 41 #[pv c] w (TokAns c w l (numR s l k)) := by
  have hA := TAt.begin h
  have hc1 : ∀ W, Calls Tryd.prog 36 #[.string s, .string ⟨#[48, 120]⟩] W fun e w' => e = .returned (.bool (Lib.hasPrefix s.data.toList [48, 120])) ∧ w' = W := fun W => Tryd.strings_HasPrefix s ⟨#[48, 120]⟩ W
  have hc2 : ∀ W, Calls Tryd.prog 36 #[.string s, .string ⟨#[48, 88]⟩] W fun e w' => e = .returned (.bool (Lib.hasPrefix s.data.toList [48, 88])) ∧ w' = W := fun W => Tryd.strings_HasPrefix s ⟨#[48, 88]⟩ W
  have c0 : ((w.alloc (.cells #[.int .i64 0, .string ⟨#[]⟩, .int .u64 0, .int .i64 0, .int .i64 0] 35)).alloc (.cells #[.int .i64 0, .int .i64 0, .int .i64 0] 29)).cell? ⟨c, 0, none⟩ = some (.string s) := Blk.cell hA.cut rfl
  cases hq1 : Lib.hasPrefix s.data.toList [48, 120]
  · cases hq2 : Lib.hasPrefix s.data.toList [48, 88]
    · rw [hq1] at hc1
      rw [hq2] at hc2
      have HR : Hid (numR s l k = numK s l k 0 10) := by show _ = _; simp [numR, hexB, hq1, hq2]
      clear hq1 hq2
      go_enter Tryd.func41, Tryd.ntmps41
      go_wp2_with (first | (go_at_call 36; refine (hc1 _).mono ?_; rintro e w' ⟨rfl, hw⟩; obtain rfl := hw) | (go_at_call 36; refine (hc2 _).mono ?_; rintro e w' ⟨rfl, hw⟩; obtain rfl := hw))
      clear hc1 hc2
      generalize ((w.alloc (.cells #[.int .i64 0, .string ⟨#[]⟩, .int .u64 0, .int .i64 0, .int .i64 0] 35)).alloc (.cells #[.int .i64 0, .int .i64 0, .int .i64 0] 29)) = W at *
      refine (digitsAhead_calls (s) 10 (by omega) _ (by first | omega | (rw [dropB_size]; omega))).mono ?_
      rintro e w1 ⟨rfl, hB1⟩
      have hA1 := hA.below hB1
      have hle := digA_le (s) 10
      have HR2 : Hid (numR s l k = numG s l k 0 (digA (s) 10)) := HR.out.trans (by unfold numK; rw [dropB_zero])
      generalize digA (s) 10 = g at *
      obtain ⟨n, v, ok⟩ := g
      have hnl : 0 + n ≤ s.size := by simpa using hle
      clear HR hA hB1 c0 hle
      have c0 : w1.cell? ⟨c, 0, none⟩ = some (.string s) := Blk.cell hA1.cut rfl
      by_cases hn : n = 0
      · have HR3 : Hid (numR s l k = ⟨noTok, ⟨20, l, k + 0⟩, s, k⟩) := HR2.out.trans (by simp [numG, hn])
        have hn1 : (((n : Nat) : Int) == 0) = true := by simp [hn]
        clear hn
        go_wp2_with fail
        refine (refuse_calls c s l k 0 w1 hA1.cut (by omega) (by omega)).mono ?_
        rintro e w2 ⟨rfl, hB2⟩
        have hA2 := hA1.below hB2
        go_wp2_with (first | refine wpList_store_row rfl 35 _ _ rfl w.heap.size (tokC noTok) rfl rfl 35 _ hA2.tok (by kernel_rfl) rfl (all_tok _) ?_ | refine wpList_store_row rfl 29 _ _ rfl (w.heap.size + 1) (fltC ⟨20, l, k + 0⟩) rfl rfl 29 _ (hA2.setT noTok).flt (by kernel_rfl) rfl (all_flt _) ?_)
        have hA3 := (hA2.setT noTok).setF ⟨20, l, k + 0⟩
        exact bodyPost_ret (ret_tf rfl rfl rfl noTok ⟨20, l, k + 0⟩ hA3.tok hA3.flt) rfl (by rw [HR3.out]; exact ⟨rfl, hA3.cut, hA3.but⟩)
      · have hn1 : (((n : Nat) : Int) == 0) = false := by rw [beq_eq_false_iff_ne]; omega
        cases ok
        · have HR3 : Hid (numR s l k = ⟨noTok, ⟨20, l, k + 0⟩, s, k⟩) := HR2.out.trans (by simp [numG, hn])
          clear hn
          go_wp2_with fail
          refine (refuse_calls c s l k 0 w1 hA1.cut (by omega) (by omega)).mono ?_
          rintro e w2 ⟨rfl, hB2⟩
          have hA2 := hA1.below hB2
          go_wp2_with (first | refine wpList_store_row rfl 35 _ _ rfl w.heap.size (tokC noTok) rfl rfl 35 _ hA2.tok (by kernel_rfl) rfl (all_tok _) ?_ | refine wpList_store_row rfl 29 _ _ rfl (w.heap.size + 1) (fltC ⟨20, l, k + 0⟩) rfl rfl 29 _ (hA2.setT noTok).flt (by kernel_rfl) rfl (all_flt _) ?_)
          have hA3 := (hA2.setT noTok).setF ⟨20, l, k + 0⟩
          exact bodyPost_ret (ret_tf rfl rfl rfl noTok ⟨20, l, k + 0⟩ hA3.tok hA3.flt) rfl (by rw [HR3.out]; exact ⟨rfl, hA3.cut, hA3.but⟩)
        · have e0 : (0 : Int) ≤ ((n : Nat) : Int) := by omega
          have e1 : ((n : Nat) : Int) ≤ ((s.size : Nat) : Int) := by omega
          have hla := letterAhead_calls (dropB s (n)) w1 (hT w1 hA1.but)
          cases hl : letterB (Lib.decodeGo (dropB s (n))).1
          · have HR3 : Hid (numR s l k = ⟨⟨2, s.extract 0 (n), v, l, k⟩, noFlt, dropB s (n), k + (n)⟩) := HR2.out.trans (by simp [numG, hn, Nat.zero_add, hl])
            rw [hl] at hla
            clear hn hl
            unfold dropB at hla
            go_wp2_with fail
            refine hla.mono ?_
            rintro e w2 ⟨rfl, hB2⟩
            have hA2 := hA1.below hB2
            go_wp2_with fail
            refine (cut_calls c s l k 2 (n) (n) w2 hA2.cut (by omega) (by omega) (by omega)).mono ?_
            rintro e w3 ⟨rfl, hC3, hB3⟩
            have hA3 := hA2.step hC3 hB3
            have hA4 := hA3.below ((Below.refl w3.heap.size w3).alloc (Nat.le_refl _) (.cells (tokC ⟨2, s.extract 0 (n), v, l, k⟩) 35))
            go_wp2_with (first | refine wpList_store_row rfl 35 _ _ rfl w.heap.size (tokC ⟨2, s.extract 0 (n), v, l, k⟩) rfl rfl 35 _ hA4.tok (by kernel_rfl) rfl (all_tok _) ?_ | refine wpList_store_row rfl 29 _ _ rfl (w.heap.size + 1) (fltC noFlt) rfl rfl 29 _ (hA4.setT ⟨2, s.extract 0 (n), v, l, k⟩).flt (by kernel_rfl) rfl (all_flt _) ?_)
            have hA5 := (hA4.setT ⟨2, s.extract 0 (n), v, l, k⟩).setF noFlt
            exact bodyPost_ret (ret_tf rfl rfl rfl ⟨2, s.extract 0 (n), v, l, k⟩ noFlt hA5.tok hA5.flt) rfl (by rw [HR3.out]; exact ⟨rfl, hA5.cut, hA5.but⟩)
          · have HR3 : Hid (numR s l k = ⟨noTok, ⟨20, l, k + (n)⟩, s, k⟩) := HR2.out.trans (by simp [numG, hn, Nat.zero_add, hl])
            rw [hl] at hla
            clear hn hl
            unfold dropB at hla
            go_wp2_with fail
            refine hla.mono ?_
            rintro e w2 ⟨rfl, hB2⟩
            have hA2 := hA1.below hB2
            go_wp2_with fail
            refine (refuse_calls c s l k (n) w2 hA2.cut (by omega) (by omega)).mono ?_
            rintro e w3 ⟨rfl, hB3⟩
            have hA3 := hA2.below hB3
            go_wp2_with (first | refine wpList_store_row rfl 35 _ _ rfl w.heap.size (tokC noTok) rfl rfl 35 _ hA3.tok (by kernel_rfl) rfl (all_tok _) ?_ | refine wpList_store_row rfl 29 _ _ rfl (w.heap.size + 1) (fltC ⟨20, l, k + (n)⟩) rfl rfl 29 _ (hA3.setT noTok).flt (by kernel_rfl) rfl (all_flt _) ?_)
            have hA4 := (hA3.setT noTok).setF ⟨20, l, k + (n)⟩
            exact bodyPost_ret (ret_tf rfl rfl rfl noTok ⟨20, l, k + (n)⟩ hA4.tok hA4.flt) rfl (by rw [HR3.out]; exact ⟨rfl, hA4.cut, hA4.but⟩)
    · have h2s := pre_size s 48 88 hq2
      rw [hq1] at hc1
      rw [hq2] at hc2
      have HR : Hid (numR s l k = numK s l k 2 16) := by show _ = _; simp [numR, hexB, hq1, hq2]
      clear hq1 hq2
      have z1 : (2 : Int) ≤ ((s.size : Nat) : Int) := by omega
      go_enter Tryd.func41, Tryd.ntmps41
      go_wp2_with (first | (go_at_call 36; refine (hc1 _).mono ?_; rintro e w' ⟨rfl, hw⟩; obtain rfl := hw) | (go_at_call 36; refine (hc2 _).mono ?_; rintro e w' ⟨rfl, hw⟩; obtain rfl := hw))
      clear hc1 hc2
      generalize ((w.alloc (.cells #[.int .i64 0, .string ⟨#[]⟩, .int .u64 0, .int .i64 0, .int .i64 0] 35)).alloc (.cells #[.int .i64 0, .int .i64 0, .int .i64 0] 29)) = W at *
      refine (digitsAhead_calls (dropB s 2) 16 (by omega) _ (by first | omega | (rw [dropB_size]; omega))).mono ?_
      rintro e w1 ⟨rfl, hB1⟩
      have hA1 := hA.below hB1
      have hle := digA_le (dropB s 2) 16
      have HR2 : Hid (numR s l k = numG s l k 2 (digA (dropB s 2) 16)) := HR.out
      generalize digA (dropB s 2) 16 = g at *
      obtain ⟨n, v, ok⟩ := g
      have hnl : 2 + n ≤ s.size := by have := hle; rw [dropB_size] at this; simp only [] at this; omega
      clear HR hA hB1 c0 hle
      have c0 : w1.cell? ⟨c, 0, none⟩ = some (.string s) := Blk.cell hA1.cut rfl
      by_cases hn : n = 0
      · have HR3 : Hid (numR s l k = ⟨noTok, ⟨20, l, k + 2⟩, s, k⟩) := HR2.out.trans (by simp [numG, hn])
        have hn1 : (((n : Nat) : Int) == 0) = true := by simp [hn]
        clear hn
        go_wp2_with fail
        refine (refuse_calls c s l k 2 w1 hA1.cut (by omega) (by omega)).mono ?_
        rintro e w2 ⟨rfl, hB2⟩
        have hA2 := hA1.below hB2
        go_wp2_with (first | refine wpList_store_row rfl 35 _ _ rfl w.heap.size (tokC noTok) rfl rfl 35 _ hA2.tok (by kernel_rfl) rfl (all_tok _) ?_ | refine wpList_store_row rfl 29 _ _ rfl (w.heap.size + 1) (fltC ⟨20, l, k + 2⟩) rfl rfl 29 _ (hA2.setT noTok).flt (by kernel_rfl) rfl (all_flt _) ?_)
        have hA3 := (hA2.setT noTok).setF ⟨20, l, k + 2⟩
        exact bodyPost_ret (ret_tf rfl rfl rfl noTok ⟨20, l, k + 2⟩ hA3.tok hA3.flt) rfl (by rw [HR3.out]; exact ⟨rfl, hA3.cut, hA3.but⟩)
      · have hn1 : (((n : Nat) : Int) == 0) = false := by rw [beq_eq_false_iff_ne]; omega
        cases ok
        · have HR3 : Hid (numR s l k = ⟨noTok, ⟨20, l, k + 0⟩, s, k⟩) := HR2.out.trans (by simp [numG, hn])
          clear hn
          go_wp2_with fail
          refine (refuse_calls c s l k 0 w1 hA1.cut (by omega) (by omega)).mono ?_
          rintro e w2 ⟨rfl, hB2⟩
          have hA2 := hA1.below hB2
          go_wp2_with (first | refine wpList_store_row rfl 35 _ _ rfl w.heap.size (tokC noTok) rfl rfl 35 _ hA2.tok (by kernel_rfl) rfl (all_tok _) ?_ | refine wpList_store_row rfl 29 _ _ rfl (w.heap.size + 1) (fltC ⟨20, l, k + 0⟩) rfl rfl 29 _ (hA2.setT noTok).flt (by kernel_rfl) rfl (all_flt _) ?_)
          have hA3 := (hA2.setT noTok).setF ⟨20, l, k + 0⟩
          exact bodyPost_ret (ret_tf rfl rfl rfl noTok ⟨20, l, k + 0⟩ hA3.tok hA3.flt) rfl (by rw [HR3.out]; exact ⟨rfl, hA3.cut, hA3.but⟩)
        · have e0 : (0 : Int) ≤ 2 + ((n : Nat) : Int) := by omega
          have e1 : 2 + ((n : Nat) : Int) ≤ ((s.size : Nat) : Int) := by omega
          have hla := letterAhead_calls (dropB s (2 + n)) w1 (hT w1 hA1.but)
          cases hl : letterB (Lib.decodeGo (dropB s (2 + n))).1
          · have HR3 : Hid (numR s l k = ⟨⟨2, s.extract 0 (2 + n), v, l, k⟩, noFlt, dropB s (2 + n), k + (2 + n)⟩) := HR2.out.trans (by simp [numG, hn, hl])
            rw [hl] at hla
            clear hn hl
            unfold dropB at hla
            go_wp2_with fail
            refine hla.mono ?_
            rintro e w2 ⟨rfl, hB2⟩
            have hA2 := hA1.below hB2
            go_wp2_with fail
            refine (cut_calls c s l k 2 (2 + n) (2 + n) w2 hA2.cut (by omega) (by omega) (by omega)).mono ?_
            rintro e w3 ⟨rfl, hC3, hB3⟩
            have hA3 := hA2.step hC3 hB3
            have hA4 := hA3.below ((Below.refl w3.heap.size w3).alloc (Nat.le_refl _) (.cells (tokC ⟨2, s.extract 0 (2 + n), v, l, k⟩) 35))
            go_wp2_with (first | refine wpList_store_row rfl 35 _ _ rfl w.heap.size (tokC ⟨2, s.extract 0 (2 + n), v, l, k⟩) rfl rfl 35 _ hA4.tok (by kernel_rfl) rfl (all_tok _) ?_ | refine wpList_store_row rfl 29 _ _ rfl (w.heap.size + 1) (fltC noFlt) rfl rfl 29 _ (hA4.setT ⟨2, s.extract 0 (2 + n), v, l, k⟩).flt (by kernel_rfl) rfl (all_flt _) ?_)
            have hA5 := (hA4.setT ⟨2, s.extract 0 (2 + n), v, l, k⟩).setF noFlt
            exact bodyPost_ret (ret_tf rfl rfl rfl ⟨2, s.extract 0 (2 + n), v, l, k⟩ noFlt hA5.tok hA5.flt) rfl (by rw [HR3.out]; exact ⟨rfl, hA5.cut, hA5.but⟩)
          · have HR3 : Hid (numR s l k = ⟨noTok, ⟨20, l, k + (2 + n)⟩, s, k⟩) := HR2.out.trans (by simp [numG, hn, hl])
            rw [hl] at hla
            clear hn hl
            unfold dropB at hla
            go_wp2_with fail
            refine hla.mono ?_
            rintro e w2 ⟨rfl, hB2⟩
            have hA2 := hA1.below hB2
            go_wp2_with fail
            refine (refuse_calls c s l k (2 + n) w2 hA2.cut (by omega) (by omega)).mono ?_
            rintro e w3 ⟨rfl, hB3⟩
            have hA3 := hA2.below hB3
            go_wp2_with (first | refine wpList_store_row rfl 35 _ _ rfl w.heap.size (tokC noTok) rfl rfl 35 _ hA3.tok (by kernel_rfl) rfl (all_tok _) ?_ | refine wpList_store_row rfl 29 _ _ rfl (w.heap.size + 1) (fltC ⟨20, l, k + (2 + n)⟩) rfl rfl 29 _ (hA3.setT noTok).flt (by kernel_rfl) rfl (all_flt _) ?_)
            have hA4 := (hA3.setT noTok).setF ⟨20, l, k + (2 + n)⟩
            exact bodyPost_ret (ret_tf rfl rfl rfl noTok ⟨20, l, k + (2 + n)⟩ hA4.tok hA4.flt) rfl (by rw [HR3.out]; exact ⟨rfl, hA4.cut, hA4.but⟩)
  · have h2s := pre_size s 48 120 hq1
    rw [hq1] at hc1
    have HR : Hid (numR s l k = numK s l k 2 16) := by show _ = _; simp [numR, hexB, hq1]
    clear hq1 hc2
    have z1 : (2 : Int) ≤ ((s.size : Nat) : Int) := by omega
    go_enter Tryd.func41, Tryd.ntmps41
    go_wp2_with (go_at_call 36; refine (hc1 _).mono ?_; rintro e w' ⟨rfl, hw⟩; obtain rfl := hw)
    clear hc1
    generalize ((w.alloc (.cells #[.int .i64 0, .string ⟨#[]⟩, .int .u64 0, .int .i64 0, .int .i64 0] 35)).alloc (.cells #[.int .i64 0, .int .i64 0, .int .i64 0] 29)) = W at *
    refine (digitsAhead_calls (dropB s 2) 16 (by omega) _ (by first | omega | (rw [dropB_size]; omega))).mono ?_
    rintro e w1 ⟨rfl, hB1⟩
    have hA1 := hA.below hB1
    have hle := digA_le (dropB s 2) 16
    have HR2 : Hid (numR s l k = numG s l k 2 (digA (dropB s 2) 16)) := HR.out
    generalize digA (dropB s 2) 16 = g at *
    obtain ⟨n, v, ok⟩ := g
    have hnl : 2 + n ≤ s.size := by have := hle; rw [dropB_size] at this; simp only [] at this; omega
    clear HR hA hB1 c0 hle
    have c0 : w1.cell? ⟨c, 0, none⟩ = some (.string s) := Blk.cell hA1.cut rfl
    by_cases hn : n = 0
    · have HR3 : Hid (numR s l k = ⟨noTok, ⟨20, l, k + 2⟩, s, k⟩) := HR2.out.trans (by simp [numG, hn])
      have hn1 : (((n : Nat) : Int) == 0) = true := by simp [hn]
      clear hn
      go_wp2_with fail
      refine (refuse_calls c s l k 2 w1 hA1.cut (by omega) (by omega)).mono ?_
      rintro e w2 ⟨rfl, hB2⟩
      have hA2 := hA1.below hB2
      go_wp2_with (first | refine wpList_store_row rfl 35 _ _ rfl w.heap.size (tokC noTok) rfl rfl 35 _ hA2.tok (by kernel_rfl) rfl (all_tok _) ?_ | refine wpList_store_row rfl 29 _ _ rfl (w.heap.size + 1) (fltC ⟨20, l, k + 2⟩) rfl rfl 29 _ (hA2.setT noTok).flt (by kernel_rfl) rfl (all_flt _) ?_)
      have hA3 := (hA2.setT noTok).setF ⟨20, l, k + 2⟩
      exact bodyPost_ret (ret_tf rfl rfl rfl noTok ⟨20, l, k + 2⟩ hA3.tok hA3.flt) rfl (by rw [HR3.out]; exact ⟨rfl, hA3.cut, hA3.but⟩)
    · have hn1 : (((n : Nat) : Int) == 0) = false := by rw [beq_eq_false_iff_ne]; omega
      cases ok
      · have HR3 : Hid (numR s l k = ⟨noTok, ⟨20, l, k + 0⟩, s, k⟩) := HR2.out.trans (by simp [numG, hn])
        clear hn
        go_wp2_with fail
        refine (refuse_calls c s l k 0 w1 hA1.cut (by omega) (by omega)).mono ?_
        rintro e w2 ⟨rfl, hB2⟩
        have hA2 := hA1.below hB2
        go_wp2_with (first | refine wpList_store_row rfl 35 _ _ rfl w.heap.size (tokC noTok) rfl rfl 35 _ hA2.tok (by kernel_rfl) rfl (all_tok _) ?_ | refine wpList_store_row rfl 29 _ _ rfl (w.heap.size + 1) (fltC ⟨20, l, k + 0⟩) rfl rfl 29 _ (hA2.setT noTok).flt (by kernel_rfl) rfl (all_flt _) ?_)
        have hA3 := (hA2.setT noTok).setF ⟨20, l, k + 0⟩
        exact bodyPost_ret (ret_tf rfl rfl rfl noTok ⟨20, l, k + 0⟩ hA3.tok hA3.flt) rfl (by rw [HR3.out]; exact ⟨rfl, hA3.cut, hA3.but⟩)
      · have e0 : (0 : Int) ≤ 2 + ((n : Nat) : Int) := by omega
        have e1 : 2 + ((n : Nat) : Int) ≤ ((s.size : Nat) : Int) := by omega
        have hla := letterAhead_calls (dropB s (2 + n)) w1 (hT w1 hA1.but)
        cases hl : letterB (Lib.decodeGo (dropB s (2 + n))).1
        · have HR3 : Hid (numR s l k = ⟨⟨2, s.extract 0 (2 + n), v, l, k⟩, noFlt, dropB s (2 + n), k + (2 + n)⟩) := HR2.out.trans (by simp [numG, hn, hl])
          rw [hl] at hla
          clear hn hl
          unfold dropB at hla
          go_wp2_with fail
          refine hla.mono ?_
          rintro e w2 ⟨rfl, hB2⟩
          have hA2 := hA1.below hB2
          go_wp2_with fail
          refine (cut_calls c s l k 2 (2 + n) (2 + n) w2 hA2.cut (by omega) (by omega) (by omega)).mono ?_
          rintro e w3 ⟨rfl, hC3, hB3⟩
          have hA3 := hA2.step hC3 hB3
          have hA4 := hA3.below ((Below.refl w3.heap.size w3).alloc (Nat.le_refl _) (.cells (tokC ⟨2, s.extract 0 (2 + n), v, l, k⟩) 35))
          go_wp2_with (first | refine wpList_store_row rfl 35 _ _ rfl w.heap.size (tokC ⟨2, s.extract 0 (2 + n), v, l, k⟩) rfl rfl 35 _ hA4.tok (by kernel_rfl) rfl (all_tok _) ?_ | refine wpList_store_row rfl 29 _ _ rfl (w.heap.size + 1) (fltC noFlt) rfl rfl 29 _ (hA4.setT ⟨2, s.extract 0 (2 + n), v, l, k⟩).flt (by kernel_rfl) rfl (all_flt _) ?_)
          have hA5 := (hA4.setT ⟨2, s.extract 0 (2 + n), v, l, k⟩).setF noFlt
          exact bodyPost_ret (ret_tf rfl rfl rfl ⟨2, s.extract 0 (2 + n), v, l, k⟩ noFlt hA5.tok hA5.flt) rfl (by rw [HR3.out]; exact ⟨rfl, hA5.cut, hA5.but⟩)
        · have HR3 : Hid (numR s l k = ⟨noTok, ⟨20, l, k + (2 + n)⟩, s, k⟩) := HR2.out.trans (by simp [numG, hn, hl])
          rw [hl] at hla
          clear hn hl
          unfold dropB at hla
          go_wp2_with fail
          refine hla.mono ?_
          rintro e w2 ⟨rfl, hB2⟩
          have hA2 := hA1.below hB2
          go_wp2_with fail
          refine (refuse_calls c s l k (2 + n) w2 hA2.cut (by omega) (by omega)).mono ?_
          rintro e w3 ⟨rfl, hB3⟩
          have hA3 := hA2.below hB3
          go_wp2_with (first | refine wpList_store_row rfl 35 _ _ rfl w.heap.size (tokC noTok) rfl rfl 35 _ hA3.tok (by kernel_rfl) rfl (all_tok _) ?_ | refine wpList_store_row rfl 29 _ _ rfl (w.heap.size + 1) (fltC ⟨20, l, k + (2 + n)⟩) rfl rfl 29 _ (hA3.setT noTok).flt (by kernel_rfl) rfl (all_flt _) ?_)
          have hA4 := (hA3.setT noTok).setF ⟨20, l, k + (2 + n)⟩
          exact bodyPost_ret (ret_tf rfl rfl rfl noTok ⟨20, l, k + (2 + n)⟩ hA4.tok hA4.flt) rfl (by rw [HR3.out]; exact ⟨rfl, hA4.cut, hA4.but⟩)
end Go.Proofs.YtkgppagpjbkhmaaDoor
