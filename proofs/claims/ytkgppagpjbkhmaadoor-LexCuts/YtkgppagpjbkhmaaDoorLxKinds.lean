/- The statements' refused and kinds. -/
import Derived.Test.YtkgppagpjbkhmaaDoorLxAwake
namespace Go.Proofs.YtkgppagpjbkhmaaDoor
open Go.RowKit Go.Shelf

theorem bytesRow_at (s : ByteArray) (cap : Nat) (j : Nat) (hj : j < s.data.toList.length) : (bytesRow s cap)[j]? = some (.int .u8 ((s.data.toList[j].toNat : Nat) : Int)) := by
  have hj' : j < s.data.size := by simpa using hj
  unfold bytesRow
  rw [Array.getElem?_append_left (by simpa using hj')]
  rw [Array.getElem?_map, Array.getElem?_eq_getElem hj']
  simp
theorem bytes_of (w : World) (s : ByteArray) (cap n : Nat) (fr : Nat × Nat) : BytesR (w.alloc (.cells (bytesRow s cap) 5 fr)) (.slice (some ⟨w.heap.size, 0, none⟩) s.size n) s := by
  have := bytes_mark w s.data.toList (bytesRow s cap) (bytesRow_at s cap) fr n
  simpa using this
set_option maxRecDepth 100000 in
set_option maxHeartbeats 4000000 in
theorem refused_yes (s : ByteArray) (l k : Nat) (w : World) (hT : Tabs w) (hs : s.size ≤ 1000) (h : lexA s = .error ⟨20, l, k⟩) :
    Calls Tryd.prog 11 #[.string s, .int .i64 ((l : Nat) : Int), .int .i64 ((k : Nat) : Int)] w fun e w' => e = .returned (.bool true) ∧ Below w.heap.size w w' := by
  have hcv := run_bytes_of_string (P := Tryd.prog) w 9 32 5 s Tryd.underlying9 Tryd.underlying32 Tryd.underlying5
  generalize grownCap w s.size 0 5 = cap at *
  have hB1 : Below w.heap.size w ((w.alloc (.cells (bytesRow s cap) 5 ((bytesRow s cap).size, (bytesRow s cap).size + 1))).drew) := ((Below.refl w.heap.size w).alloc (Nat.le_refl _) _).drew
  have hb1 := (bytes_of w s cap cap ((bytesRow s cap).size, (bytesRow s cap).size + 1)).below (Below.refl _ _).drew
  have hL := Lex_calls _ _ _ hb1 (hT.below hB1) (by omega)
  rw [h] at hL
  generalize bytesRow s cap = C at *
  have HL := hid_of hL
  clear hL hb1
  go_enter Tryd.func11, Tryd.ntmps11
  go_wp2_with fail
  refine HL.out.mono ?_
  rintro e w1 ⟨rfl, hB2⟩
  simp only [fltC, fltA]
  clear HL hcv
  go_wp2_with fail
  go_ret
  exact ⟨rfl, (below_step hB1 hB1.size hB2).alloc (Nat.le_trans hB1.size hB2.size) _⟩
/-- A list of numbers that the call holds against the kinds. -/
structure WantAt (w : World) (g : Nat) (ks : List Nat) : Prop where
  lt : g < w.heap.size
  cell : ∀ (i : Nat) (x : Nat), ks[i]? = some x → w.cell? ⟨g, i, none⟩ = some (.int .i64 ((x : Nat) : Int))
theorem WantAt.below {w w' : World} {g : Nat} {ks : List Nat} (h : WantAt w g ks) (hb : Below w.heap.size w w') : WantAt w' g ks :=
  ⟨Nat.lt_of_lt_of_le h.lt hb.size, fun i x hx => (hb.cell (p := ⟨g, i, none⟩) h.lt).trans (h.cell i x hx)⟩
theorem ownsT_below {w w' : World} {base : Nat} {v : Value} {n : Nat} {xs : List Value} (h : w.ownsRow base 35 5 v n xs) (hb : Below w.heap.size w w') : w'.ownsRow base 35 5 v n xs := by
  refine ⟨h.1, ?_⟩
  rcases h.2 with h2 | ⟨g, cap, cur, rfl, h4, h5, h6⟩
  · exact .inl h2
  · exact .inr ⟨g, cap, cur, rfl, h4, (hb.block g (Blk.lt (t := 35) (cs := cur) h5)).trans h5, h6⟩
theorem encT_kind : ∀ (l : List Tok) (i : Nat) (t : Tok), l[i]? = some t → (encT l)[i * 5]? = some (.int .i64 ((t.kind : Nat) : Int))
  | [], i, t, h => by simp at h
  | u :: l, 0, t, h => by
    simp at h
    subst h
    simp [encT, tokC]
  | u :: l, i + 1, t, h => by
    have h : l[i]? = some t := by simpa using h
    have := encT_kind l i t h
    rw [show (i + 1) * 5 = 5 + i * 5 by omega]
    have e : encT (u :: l) = (tokC u).toList ++ encT l := by simp [encT]
    rw [e, List.getElem?_append_right (by simp [tokC])]
    simpa [tokC] using this
set_option maxRecDepth 100000 in
set_option maxHeartbeats 4000000 in
theorem kinds_yes (s : ByteArray) (g n : Nat) (ks : List Nat) (l : List Tok) (w : World) (hT : Tabs w) (hs : s.size ≤ 1000) (hw : WantAt w g ks) (h : lexA s = .ok l) (hk : l.map (·.kind) = ks) (h0 : 0 < l.length) (hl : l.length ≤ 1000) :
    Calls Tryd.prog 10 #[.string s, .slice (some ⟨g, 0, none⟩) ks.length n] w fun e w' => e = .returned (.bool true) ∧ Below w.heap.size w w' := by
  have hcv := run_bytes_of_string (P := Tryd.prog) w 9 32 5 s Tryd.underlying9 Tryd.underlying32 Tryd.underlying5
  generalize grownCap w s.size 0 5 = cap at *
  have hB1 : Below w.heap.size w ((w.alloc (.cells (bytesRow s cap) 5 ((bytesRow s cap).size, (bytesRow s cap).size + 1))).drew) := ((Below.refl w.heap.size w).alloc (Nat.le_refl _) _).drew
  have hb1 := (bytes_of w s cap cap ((bytesRow s cap).size, (bytesRow s cap).size + 1)).below (Below.refl _ _).drew
  have hL := Lex_calls _ _ _ hb1 (hT.below hB1) (by omega)
  rw [h] at hL
  generalize bytesRow s cap = C at *
  have HL := hid_of hL
  have hkl : ks.length = l.length := by rw [← hk, List.length_map]
  have HK : Hid (∀ (i : Nat) (t : Tok), l[i]? = some t → ks[i]? = some t.kind) := fun i t ht => by rw [← hk, List.getElem?_map, ht]; rfl
  rw [hkl]
  clear hL hb1 hk hkl
  go_enter Tryd.func10, Tryd.ntmps10
  go_wp2_with fail
  refine HL.out.mono ?_
  rintro e w1 ⟨⟨v, rfl, hown⟩, hB2⟩
  obtain ⟨gt, capt, rfl⟩ := tok_form hown h0
  simp only [fltC, noFlt, fltA]
  have hW1 := below_step hB1 hB1.size hB2
  have hnn : (((l.length : Nat) : Int) != ((l.length : Nat) : Int)) = false := by simp
  clear HL hcv
  go_wp2_with fail
  have hW2 := hW1.alloc hW1.size (.cells #[.int .i64 0, .int .i64 0, .int .i64 0] 29)
  have hBA := (Below.refl w1.heap.size w1).alloc (Nat.le_refl _) (.cells #[.int .i64 0, .int .i64 0, .int .i64 0] 29)
  have hown2 := ownsT_below hown hBA
  have hww := hw.below hW2
  generalize (w1.alloc (.cells #[.int .i64 0, .int .i64 0, .int .i64 0] 29)) = W at *
  clear hown hBA hw hnn
  go_loopw [7] (fun i wr => ∃ (k m : Nat), k ≤ l.length ∧ i = .int .i64 ((k : Nat) : Int) ∧ wr = W.drewN m) (fun i _ => l.length - (intOf i).toNat)
  case atStart => exact ⟨0, 0, by omega, rfl, rfl⟩
  case round =>
    obtain ⟨k, m, hk, rfl, rfl⟩ := hrel
    by_cases hlt : k < l.length
    · obtain ⟨t, ht⟩ : ∃ t, l[k]? = some t := ⟨_, List.getElem?_eq_getElem hlt⟩
      have q0 : W.cell? ⟨gt, k * 5, none⟩ = some (.int .i64 ((t.kind : Nat) : Int)) := tok_at hown2 (k * 5) (by omega) (encT_kind l k t ht)
      have q1 : W.cell? ⟨g, k, none⟩ = some (.int .i64 ((t.kind : Nat) : Int)) := hww.cell k t.kind (HK.out k t ht)
      have hne : (((t.kind : Nat) : Int) != ((t.kind : Nat) : Int)) = false := by simp
      have k0 : (0 : Int) ≤ ((k : Nat) : Int) := by omega
      have k1 : ((k : Nat) : Int) < ((l.length : Nat) : Int) := by omega
      generalize t.kind = x at *
      clear ht
      go_wp2_with fail
      go_quiet (fail)
      go_wp2_with fail
      exact ⟨⟨k + 1, m + nq, by omega, by go_num, rfl⟩, by simp [intOf]; omega⟩
    · obtain rfl : k = l.length := by omega
      go_wp2_with fail
      go_ret
      exact ⟨rfl, below_drewN hW2 _⟩
end Go.Proofs.YtkgppagpjbkhmaaDoor
