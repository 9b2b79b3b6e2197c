/- The contract of token. -/
import Derived.Test.YtkgppagpjbkhmaaDoorLxNum
namespace Go.Proofs.YtkgppagpjbkhmaaDoor
open Go.RowKit Go.Shelf

def tokR (s : ByteArray) (l k : Nat) : TR :=
  if s.size = 0 then ⟨⟨5, s.extract 0 0, 0, l, k⟩, noFlt, dropB s 0, k + 0⟩
  else if 0 < (nameA s).1 then ⟨⟨if wordB (s.extract 0 (nameA s).1) = true then 3 else 1, s.extract 0 (nameA s).1, 0, l, k⟩, noFlt, dropB s (nameA s).1, k + (nameA s).2⟩
  else if 0 < signA s then ⟨⟨4, s.extract 0 (signA s), 0, l, k⟩, noFlt, dropB s (signA s), k + signA s⟩
  else if digitB (at0 s) = true then numR s l k
  else ⟨noTok, ⟨20, l, k + 0⟩, s, k⟩
theorem nameK_le (s : ByteArray) : ∀ f pos n, n ≤ pos → pos ≤ s.size → (nameK s f pos n).1 ≤ s.size ∧ (nameK s f pos n).2 ≤ (nameK s f pos n).1 := by
  intro f
  induction f with
  | zero => intro pos n h1 h2; exact ⟨Nat.le_refl _, Nat.le_trans h1 h2⟩
  | succ f ih =>
    intro pos n h1 h2
    unfold nameK
    split
    · rename_i hp
      split
      · exact ⟨h2, h1⟩
      · have := dec_pos s pos
        have h3 := dec_le s pos hp
        exact ih _ _ (by omega) h3
    · exact ⟨Nat.le_refl _, Nat.le_trans h1 h2⟩
theorem nameA_le (s : ByteArray) : (nameA s).1 ≤ s.size ∧ (nameA s).2 ≤ (nameA s).1 := nameK_le s _ _ _ (Nat.le_refl _) (Nat.zero_le _)
theorem pre_le (s : ByteArray) (l : List UInt8) (h : Lib.hasPrefix s.data.toList l = true) : l.length ≤ s.size := by
  have h : l.isPrefixOf s.data.toList = true := h
  have := (List.isPrefixOf_iff_prefix.1 h).length_le
  rw [Array.length_toList] at this
  exact this
theorem signK_le (s : ByteArray) : ∀ ls, signK s ls ≤ s.size
  | [] => Nat.zero_le _
  | l :: ls => by
    unfold signK
    split
    · rename_i h; exact pre_le s l h
    · exact signK_le s ls
theorem signA_le (s : ByteArray) : signA s ≤ s.size := signK_le s signsL
theorem at0_lt (s : ByteArray) : at0 s < 256 := (s.get! 0).toNat_lt
/-- The table of signs and the decoder's tables stay, whatever else a cutter's call writes. -/
structure Tabs (w : World) : Prop where
  sig : SigTab w
  utf : Lib.Utf8Tabs 1 2 w
theorem cell_same {w w' : World} {b j : Nat} (h : w'.heap[b]? = w.heap[b]?) : w'.cell? ⟨b, j, none⟩ = w.cell? ⟨b, j, none⟩ := by
  simp only [World.cell?]
  rw [h]
theorem Tabs.same {w w' : World} (h : Tabs w) (hz : w.heap.size ≤ w'.heap.size) (hs : ∀ k, k ≤ 2 → k < w.heap.size → w'.heap[k]? = w.heap[k]?) : Tabs w' := by
  have h1 : 1 < w.heap.size := World.block_lt_of_cell? w ⟨1, 0, none⟩ (h.utf.1 0 (by omega))
  have h2 : 2 < w.heap.size := World.block_lt_of_cell? w ⟨2, 2 * 0, none⟩ (h.utf.2 0 (by omega)).1
  refine ⟨⟨by omega, fun j hj => (cell_same (hs 0 (by omega) (by omega))).trans (h.sig.2 j hj)⟩, fun c hc => (cell_same (hs 1 (by omega) h1)).trans (h.utf.1 c hc), fun i hi => ⟨(cell_same (hs 2 (by omega) h2)).trans (h.utf.2 i hi).1, (cell_same (hs 2 (by omega) h2)).trans (h.utf.2 i hi).2⟩⟩
theorem Tabs.lt {w : World} (h : Tabs w) : 2 < w.heap.size := World.block_lt_of_cell? w ⟨2, 2 * 0, none⟩ (h.utf.2 0 (by omega)).1
theorem Tabs.but {c : Nat} {w w' : World} (h : Tabs w) (hb : But c w w') (hc : 2 < c) : Tabs w' := h.same hb.size (fun k hk hl => hb.block k hl (by omega))
theorem Tabs.below {w w' : World} (h : Tabs w) (hb : Below w.heap.size w w') : Tabs w' := h.same hb.size (fun k _ hl => hb.block k hl)
theorem Tabs.step {n : Nat} {w w' : World} (h : Tabs w) (hb : Below n w w') (hn : 2 < n) : Tabs w' := h.same hb.size (fun k hk _ => hb.block k (by omega))
set_option maxRecDepth 100000 in
set_option maxHeartbeats 8000000 in
theorem token_calls (c : Nat) (s : ByteArray) (l k : Nat) (w : World) (h : Cut w c s l k) (hT : Tabs w) (hc2 : 2 < c) (hs : s.size + k ≤ 100000) :
    Calls Tryd.prog 23 #[pv c] w (TokAns c w l (tokR s l k)) := by
  have hA := TAt.begin h
  have c0 : ((w.alloc (.cells #[.int .i64 0, .string ⟨#[]⟩, .int .u64 0, .int .i64 0, .int .i64 0] 35)).alloc (.cells #[.int .i64 0, .int .i64 0, .int .i64 0] 29)).cell? ⟨c, 0, none⟩ = some (.string s) := Blk.cell hA.cut rfl
  by_cases hz : s.size = 0
  · have HR : Hid (tokR s l k = ⟨⟨5, s.extract 0 0, 0, l, k⟩, noFlt, dropB s 0, k + 0⟩) := if_pos hz
    obtain rfl : s = ⟨#[]⟩ := by
      obtain ⟨⟨d⟩⟩ := s
      cases d with
      | nil => rfl
      | cons a d => simp [ByteArray.size] at hz
    go_enter Tryd.func23, Tryd.ntmps23
    go_wp2_with fail
    refine (cut_calls c ⟨#[]⟩ l k 5 0 0 _ hA.cut (by omega) (by omega) (by omega)).mono ?_
    rintro e w3 ⟨rfl, hC3, hB3⟩
    have hA3 := hA.step hC3 hB3
    clear hA c0
    go_wp2_with (first | refine wpList_store_row rfl 35 _ _ rfl w.heap.size (tokC ⟨5, (⟨#[]⟩ : ByteArray).extract 0 0, 0, l, k⟩) rfl rfl 35 _ hA3.tok (by kernel_rfl) rfl (all_tok _) ?_ | refine wpList_store_row rfl 29 _ _ rfl (w.heap.size + 1) (fltC noFlt) rfl rfl 29 _ (hA3.setT ⟨5, (⟨#[]⟩ : ByteArray).extract 0 0, 0, l, k⟩).flt (by kernel_rfl) rfl (all_flt _) ?_)
    have hA5 := (hA3.setT ⟨5, (⟨#[]⟩ : ByteArray).extract 0 0, 0, l, k⟩).setF noFlt
    exact bodyPost_ret (ret_tf rfl rfl rfl ⟨5, (⟨#[]⟩ : ByteArray).extract 0 0, 0, l, k⟩ noFlt hA5.tok hA5.flt) rfl (by rw [HR.out]; exact ⟨rfl, hA5.cut, hA5.but⟩)
  · have hne := ne_empty s hz
    have hpos : 0 < s.size := by omega
    have hnm := nameAhead_calls s ((w.alloc (.cells #[.int .i64 0, .string ⟨#[]⟩, .int .u64 0, .int .i64 0, .int .i64 0] 35)).alloc (.cells #[.int .i64 0, .int .i64 0, .int .i64 0] 29)) (by omega)
    have hle := nameA_le s
    have HR0 : Hid (tokR s l k = _) := if_neg hz
    by_cases hn : 0 < (nameA s).1
    · have HR : Hid (tokR s l k = _) := HR0.out.trans (if_pos hn)
      generalize (nameA s).1 = n at *
      generalize (nameA s).2 = m at *
      have n0 : (0 : Int) ≤ ((n : Nat) : Int) := by omega
      have n1 : ((n : Nat) : Int) ≤ ((s.size : Nat) : Int) := by omega
      have n2 : (0 : Int) < ((n : Nat) : Int) := by omega
      clear HR0
      cases hw : wordB (s.extract 0 n)
      · rw [hw, if_neg (by simp)] at HR
        go_enter Tryd.func23, Tryd.ntmps23
        go_wp2_with fail
        refine hnm.mono ?_
        rintro e w1 ⟨rfl, hB1⟩
        have hA1 := hA.below hB1
        clear hA c0 hnm
        have c0 : w1.cell? ⟨c, 0, none⟩ = some (.string s) := Blk.cell hA1.cut rfl
        go_wp2_with fail
        refine (isWord_calls _ _).mono ?_
        rw [hw]
        rintro e w2 ⟨rfl, hw2⟩
        obtain rfl : w1 = w2 := hw2.symm
        go_wp2_with fail
        refine (cut_calls c s l k 1 n m w1 hA1.cut (by omega) (by omega) (by omega)).mono ?_
        rintro e w3 ⟨rfl, hC3, hB3⟩
        have hA3 := hA1.step hC3 hB3
        go_wp2_with (first | refine wpList_store_row rfl 35 _ _ rfl w.heap.size (tokC ⟨1, s.extract 0 n, 0, l, k⟩) rfl rfl 35 _ hA3.tok (by kernel_rfl) rfl (all_tok _) ?_ | refine wpList_store_row rfl 29 _ _ rfl (w.heap.size + 1) (fltC noFlt) rfl rfl 29 _ (hA3.setT ⟨1, s.extract 0 n, 0, l, k⟩).flt (by kernel_rfl) rfl (all_flt _) ?_)
        have hA5 := (hA3.setT ⟨1, s.extract 0 n, 0, l, k⟩).setF noFlt
        exact bodyPost_ret (ret_tf rfl rfl rfl ⟨1, s.extract 0 n, 0, l, k⟩ noFlt hA5.tok hA5.flt) rfl (by rw [HR.out]; exact ⟨rfl, hA5.cut, hA5.but⟩)
      · rw [hw, if_pos rfl] at HR
        go_enter Tryd.func23, Tryd.ntmps23
        go_wp2_with fail
        refine hnm.mono ?_
        rintro e w1 ⟨rfl, hB1⟩
        have hA1 := hA.below hB1
        clear hA c0 hnm
        have c0 : w1.cell? ⟨c, 0, none⟩ = some (.string s) := Blk.cell hA1.cut rfl
        go_wp2_with fail
        refine (isWord_calls _ _).mono ?_
        rw [hw]
        rintro e w2 ⟨rfl, hw2⟩
        obtain rfl : w1 = w2 := hw2.symm
        go_wp2_with fail
        refine (cut_calls c s l k 3 n m w1 hA1.cut (by omega) (by omega) (by omega)).mono ?_
        rintro e w3 ⟨rfl, hC3, hB3⟩
        have hA3 := hA1.step hC3 hB3
        go_wp2_with (first | refine wpList_store_row rfl 35 _ _ rfl w.heap.size (tokC ⟨3, s.extract 0 n, 0, l, k⟩) rfl rfl 35 _ hA3.tok (by kernel_rfl) rfl (all_tok _) ?_ | refine wpList_store_row rfl 29 _ _ rfl (w.heap.size + 1) (fltC noFlt) rfl rfl 29 _ (hA3.setT ⟨3, s.extract 0 n, 0, l, k⟩).flt (by kernel_rfl) rfl (all_flt _) ?_)
        have hA5 := (hA3.setT ⟨3, s.extract 0 n, 0, l, k⟩).setF noFlt
        exact bodyPost_ret (ret_tf rfl rfl rfl ⟨3, s.extract 0 n, 0, l, k⟩ noFlt hA5.tok hA5.flt) rfl (by rw [HR.out]; exact ⟨rfl, hA5.cut, hA5.but⟩)
    · have HR1 : Hid (tokR s l k = _) := HR0.out.trans (if_neg hn)
      have hn0 : (nameA s).1 = 0 := by omega
      rw [hn0] at hnm
      generalize (nameA s).2 = m at *
      have hsl := signA_le s
      clear HR0 hn hn0 hle
      by_cases hsg : 0 < signA s
      · have HR : Hid (tokR s l k = _) := HR1.out.trans (if_pos hsg)
        have hsc : ∀ W, SigTab W → Calls Tryd.prog 39 #[.string s] W fun e w' => e = .returned (.int .i64 ((signA s : Nat) : Int)) ∧ w' = W := fun W hW => signAhead_calls s W hW
        generalize signA s = n at *
        have n2 : (0 : Int) < ((n : Nat) : Int) := by omega
        clear HR1
        go_enter Tryd.func23, Tryd.ntmps23
        go_wp2_with fail
        refine hnm.mono ?_
        rintro e w1 ⟨rfl, hB1⟩
        have hA1 := hA.below hB1
        clear hA c0 hnm
        have c0 : w1.cell? ⟨c, 0, none⟩ = some (.string s) := Blk.cell hA1.cut rfl
        go_wp2_with fail
        refine (hsc _ (hT.but hA1.but hc2).sig).mono ?_
        rintro e w2 ⟨rfl, hw2⟩
        obtain rfl : w1 = w2 := hw2.symm
        go_wp2_with fail
        refine (cut_calls c s l k 4 n n w1 hA1.cut (by omega) (by omega) (by omega)).mono ?_
        rintro e w3 ⟨rfl, hC3, hB3⟩
        have hA3 := hA1.step hC3 hB3
        go_wp2_with (first | refine wpList_store_row rfl 35 _ _ rfl w.heap.size (tokC ⟨4, s.extract 0 n, 0, l, k⟩) rfl rfl 35 _ hA3.tok (by kernel_rfl) rfl (all_tok _) ?_ | refine wpList_store_row rfl 29 _ _ rfl (w.heap.size + 1) (fltC noFlt) rfl rfl 29 _ (hA3.setT ⟨4, s.extract 0 n, 0, l, k⟩).flt (by kernel_rfl) rfl (all_flt _) ?_)
        have hA5 := (hA3.setT ⟨4, s.extract 0 n, 0, l, k⟩).setF noFlt
        exact bodyPost_ret (ret_tf rfl rfl rfl ⟨4, s.extract 0 n, 0, l, k⟩ noFlt hA5.tok hA5.flt) rfl (by rw [HR.out]; exact ⟨rfl, hA5.cut, hA5.but⟩)
      · have HR2 : Hid (tokR s l k = _) := HR1.out.trans (if_neg hsg)
        have hsc : ∀ W, SigTab W → Calls Tryd.prog 39 #[.string s] W fun e w' => e = .returned (.int .i64 ((0 : Nat) : Int)) ∧ w' = W := fun W hW => by
          have := signAhead_calls s W hW
          rwa [show signA s = 0 from by omega] at this
        have hix := index0 s hpos
        have hdc : ∀ W, Calls Tryd.prog 40 #[.int .i32 ((at0 s : Nat) : Int)] W fun e w' => e = .returned (.bool (digitB (at0 s))) ∧ w' = W := fun W => isDigit_calls (at0 s) W
        have hlt := at0_lt s
        clear HR1 hsg hsl
        cases hd : digitB (at0 s)
        · have HR : Hid (tokR s l k = _) := HR2.out.trans (if_neg (by rw [hd]; simp))
          rw [hd] at hdc
          generalize at0 s = a at *
          clear HR2
          go_enter Tryd.func23, Tryd.ntmps23
          go_wp2_with fail
          refine hnm.mono ?_
          rintro e w1 ⟨rfl, hB1⟩
          have hA1 := hA.below hB1
          clear hA c0 hnm
          have c0 : w1.cell? ⟨c, 0, none⟩ = some (.string s) := Blk.cell hA1.cut rfl
          go_wp2_with fail
          refine (hsc _ (hT.but hA1.but hc2).sig).mono ?_
          rintro e w2 ⟨rfl, hw2⟩
          obtain rfl : w1 = w2 := hw2.symm
          go_wp2_with (go_at_call 40; refine (hdc _).mono ?_; rintro e w2 ⟨rfl, hw2⟩; obtain rfl : w1 = w2 := hw2.symm)
          refine (refuse_calls c s l k 0 w1 hA1.cut (by omega) (by omega)).mono ?_
          rintro e w3 ⟨rfl, hB3⟩
          have hA3 := hA1.below hB3
          go_wp2_with (first | refine wpList_store_row rfl 35 _ _ rfl w.heap.size (tokC noTok) rfl rfl 35 _ hA3.tok (by kernel_rfl) rfl (all_tok _) ?_ | refine wpList_store_row rfl 29 _ _ rfl (w.heap.size + 1) (fltC ⟨20, l, k + 0⟩) rfl rfl 29 _ (hA3.setT noTok).flt (by kernel_rfl) rfl (all_flt _) ?_)
          have hA4 := (hA3.setT noTok).setF ⟨20, l, k + 0⟩
          exact bodyPost_ret (ret_tf rfl rfl rfl noTok ⟨20, l, k + 0⟩ hA4.tok hA4.flt) rfl (by rw [HR.out]; exact ⟨rfl, hA4.cut, hA4.but⟩)
        · have HR : Hid (tokR s l k = numR s l k) := HR2.out.trans (if_pos hd)
          rw [hd] at hdc
          generalize at0 s = a at *
          clear HR2
          go_enter Tryd.func23, Tryd.ntmps23
          go_wp2_with fail
          refine hnm.mono ?_
          rintro e w1 ⟨rfl, hB1⟩
          have hA1 := hA.below hB1
          clear hA c0 hnm
          have c0 : w1.cell? ⟨c, 0, none⟩ = some (.string s) := Blk.cell hA1.cut rfl
          go_wp2_with fail
          refine (hsc _ (hT.but hA1.but hc2).sig).mono ?_
          rintro e w2 ⟨rfl, hw2⟩
          obtain rfl : w1 = w2 := hw2.symm
          go_wp2_with (go_at_call 40; refine (hdc _).mono ?_; rintro e w2 ⟨rfl, hw2⟩; obtain rfl : w1 = w2 := hw2.symm)
          refine (number_calls c s l k w1 hA1.cut (fun W hW => ((hT.but hA1.but hc2).but hW hc2).utf) hs).mono ?_
          rintro e w3 ⟨rfl, hC3, hB3⟩
          have hA3 := hA1.step hC3 hB3
          generalize numR s l k = R at *
          go_wp2_with (first | refine wpList_store_row rfl 35 _ _ rfl w.heap.size (tokC R.tok) rfl rfl 35 _ hA3.tok (by kernel_rfl) rfl (all_tok _) ?_ | refine wpList_store_row rfl 29 _ _ rfl (w.heap.size + 1) (fltC R.flt) rfl rfl 29 _ (hA3.setT R.tok).flt (by kernel_rfl) rfl (all_flt _) ?_)
          have hA5 := (hA3.setT R.tok).setF R.flt
          exact bodyPost_ret (ret_tf rfl rfl rfl R.tok R.flt hA5.tok hA5.flt) rfl (by rw [HR.out]; exact ⟨rfl, hA5.cut, hA5.but⟩)
end Go.Proofs.YtkgppagpjbkhmaaDoor
