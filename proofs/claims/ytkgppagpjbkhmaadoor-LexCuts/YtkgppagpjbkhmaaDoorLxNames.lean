/- The reference's IsWord and IsName, and the statement LexNames, walked. -/
import Derived.Test.YtkgppagpjbkhmaaDoorLxRunes
import Derived.Test.YtkgppagpjbkhmaaDoorLxKinds
namespace Go.Proofs.YtkgppagpjbkhmaaDoor
open Go.RowKit Go.Shelf

def wordsA : Array Value := (wordsL.map (fun l => Value.string ⟨l.toArray⟩)).toArray
theorem words_calls (w : World) : Calls Tryd.prog 45 #[] w fun e w' => e = .returned (.slice (some ⟨w.heap.size, 0, none⟩) 18 18) ∧ w' = w.alloc (.cells wordsA 9) := by
  go_enter Tryd.func45, Tryd.ntmps45
  go_wp2_with fail
  go_ret
  exact ⟨rfl, rfl⟩
theorem words_at {k : Nat} {l : List UInt8} (h : wordsL[k]? = some l) : wordsA[k]? = some (.string ⟨l.toArray⟩) := by
  simp [wordsA, h]
set_option maxRecDepth 100000 in
set_option maxHeartbeats 4000000 in
theorem rIsWord_calls (s : ByteArray) (w : World) : Calls Tryd.prog 28 #[.string s] w fun e w' => e = .returned (.bool (wordB s)) ∧ Below w.heap.size w w' := by
  have hB := (Below.refl w.heap.size w).alloc (Nat.le_refl _) (.cells wordsA 9)
  have hK := Blk.new w 9 wordsA
  go_enter Tryd.func28, Tryd.ntmps28
  go_wp2_with fail
  refine (words_calls w).mono ?_
  rintro e w1 ⟨rfl, hw1⟩
  rw [← hw1] at hB hK
  clear hw1
  go_wp2_with fail
  go_loopw [4] (fun i wr => ∃ k : Nat, k ≤ 18 ∧ i = .int .i64 ((k : Nat) : Int) ∧ Hid (∀ j l, j < k → wordsL[j]? = some l → (l == s.data.toList) = false) ∧ wr = w1) (fun i _ => 18 - (intOf i).toNat)
  case atStart => exact ⟨0, by omega, rfl, fun j l hj => by omega, rfl⟩
  case round =>
    obtain ⟨k, hk, rfl, HN, rfl⟩ := hrel
    by_cases hlt : k < 18
    · obtain ⟨l, hl⟩ : ∃ l, wordsL[k]? = some l := ⟨_, List.getElem?_eq_getElem (by simpa [wordsL] using hlt)⟩
      have c0 := hK.cell (words_at hl)
      have k0 : (0 : Int) ≤ ((k : Nat) : Int) := by omega
      have k1 : ((k : Nat) : Int) < 18 := by omega
      have ht : (⟨l.toArray⟩ : ByteArray).toList = l := by rw [ByteArray.toList_eq]
      have ht2 : s.toList = s.data.toList := ByteArray.toList_eq s
      generalize (⟨l.toArray⟩ : ByteArray) = t at *
      cases hq : (l == s.data.toList)
      · have hq2 : (t.toList == s.toList) = false := by rw [ht, ht2]; exact hq
        have HN2 : Hid (∀ j l, j < k + 1 → wordsL[j]? = some l → (l == s.data.toList) = false) := by
          intro j l' hj hl'
          by_cases e : j = k
          · subst e
            rw [hl] at hl'
            injection hl' with hl'
            rw [← hl']
            exact hq
          · exact HN.out j l' (by omega) hl'
        clear ht ht2 hq hl
        go_wp2_with fail
        exact ⟨⟨k + 1, by omega, by go_num, HN2, by trivial⟩, by simp [intOf]; omega⟩
      · have hq2 : (t.toList == s.toList) = true := by rw [ht, ht2]; exact hq
        have HW : Hid (wordB s = true) := by
          rw [Hid, wordB, List.any_eq_true]
          refine ⟨l, List.mem_of_getElem? hl, ?_⟩
          rw [beq_iff_eq] at hq ⊢
          exact hq.symm
        clear ht ht2 hq hl
        go_wp2_with fail
        go_ret
        exact ⟨ret_bool HW.out.symm, hB⟩
    · obtain rfl : k = 18 := by omega
      have HW : Hid (wordB s = false) := by
        rw [Hid, wordB, List.any_eq_false]
        intro l hl
        obtain ⟨j, hj⟩ := List.getElem?_of_mem hl
        have hj2 : j < 18 := by
          have := (List.getElem?_eq_some_iff.1 hj).1
          simpa [wordsL] using this
        have := HN.out j l hj2 hj
        rw [beq_eq_false_iff_ne] at this
        simpa using fun e => this e.symm
      go_wp2_with fail
      go_ret
      exact ⟨ret_bool HW.out.symm, hB⟩
/-- Does a rune of the list stop a name? -/
def rnStop (i : Nat) (x : Rn) : Bool := !letterRB x && (decide (i = 0) || !digitRB x)
def nameL : Nat → List Rn → Bool
  | _, [] => true
  | _, [_] => true
  | i, x :: y :: l => !rnStop i x && nameL (i + 1) (y :: l)
def rNameB (s : ByteArray) : Bool := nameL 0 (runesA s) && decide (1 < (runesA s).length) && !wordB s
theorem encR_at : ∀ (l : List Rn) (i : Nat) (x : Rn), l[i]? = some x → ∀ j, j < 5 → (encR l)[i * 5 + j]? = (rnC x)[j]?
  | [], i, x, h => by simp at h
  | u :: l, 0, x, h => by
    simp at h
    subst h
    intro j hj
    have e : encR (u :: l) = (rnC u).toList ++ encR l := by simp [encR]
    rw [e, List.getElem?_append_left (by simp [rnC]; omega)]
    simp
  | u :: l, i + 1, x, h => by
    intro j hj
    have h : l[i]? = some x := by simpa using h
    have := encR_at l i x h j hj
    rw [show (i + 1) * 5 + j = 5 + (i * 5 + j) by omega]
    have e : encR (u :: l) = (rnC u).toList ++ encR l := by simp [encR]
    rw [e, List.getElem?_append_right (by simp [rnC])]
    simpa [rnC] using this
theorem nameL_drop (i : Nat) (l : List Rn) (x y : Rn) (r : List Rn) (h : l.drop i = x :: y :: r) : nameL i (l.drop i) = (!rnStop i x && nameL (i + 1) (l.drop (i + 1))) := by
  have : l.drop (i + 1) = y :: r := by
    rw [← List.drop_drop, h]
    rfl
  rw [h, this]
  rfl
theorem runesK_pos (s : ByteArray) : ∀ f pos l k, 0 < (runesK s f pos l k).length := by
  intro f
  induction f with
  | zero => intro pos l k; simp [runesK]
  | succ f ih =>
    intro pos l k
    unfold runesK
    split
    · simp
    · simp
theorem stop_same (s : ByteArray) (pos l k i : Nat) (hi : i = 0 ↔ pos = 0) : rnStop i ⟨runeI s pos, pos, (Utf8.decode s pos).2, l, k⟩ = nameStop s pos := by
  have hw := dec_pos s pos
  unfold rnStop nameStop letterRB digitRB letterB digitB runeI
  generalize (Utf8.decode s pos).1 = r at *
  generalize (Utf8.decode s pos).2 = n at *
  simp only []
  have hd : decide (i = 0) = decide (pos = 0) := by rw [decide_eq_decide]; exact hi
  rw [hd]
  generalize decide (pos = 0) = q
  rw [Bool.eq_iff_iff]
  by_cases h : r = 65533 ∧ n = 1
  · rw [if_pos h]
    obtain ⟨rfl, rfl⟩ := h
    cases q <;> simp
  · rw [if_neg h]
    have hn : 0 < n := by omega
    cases q <;> simp [hn] <;> omega
theorem nameL_same (s : ByteArray) : ∀ f pos l k i m, (i = 0 ↔ pos = 0) → s.size ≤ pos + f → pos ≤ s.size → nameL i (runesK s f pos l k) = decide ((nameK s f pos m).1 = s.size) := by
  intro f
  induction f with
  | zero =>
    intro pos l k i m hi hf hp
    simp [runesK, nameL, nameK]
  | succ f ih =>
    intro pos l k i m hi hf hp
    unfold runesK nameK
    by_cases h : pos < s.size
    · rw [if_pos h, if_pos h]
      have hw := dec_pos s pos
      have hl := dec_le s pos h
      have h0 := runesK_pos s f (pos + (Utf8.decode s pos).2) (if runeI s pos = 10 then l + 1 else l) (if runeI s pos = 10 then 1 else k + 1)
      have ih2 := ih (pos + (Utf8.decode s pos).2) (if runeI s pos = 10 then l + 1 else l) (if runeI s pos = 10 then 1 else k + 1) (i + 1) (m + 1) (by omega) (by omega) hl
      generalize runesK s f (pos + (Utf8.decode s pos).2) (if runeI s pos = 10 then l + 1 else l) (if runeI s pos = 10 then 1 else k + 1) = L at *
      match L, h0, ih2 with
      | y :: r, _, ih2 =>
        show (!rnStop i _ && nameL (i + 1) (y :: r)) = _
        rw [stop_same s pos l k i hi, ih2]
        cases hs : nameStop s pos
        · simp
        · simp
          omega
    · rw [if_neg h, if_neg h]
      simp [nameL]
theorem runesK_len (s : ByteArray) (f pos l k : Nat) (hf : s.size ≤ pos + f) : decide (1 < (runesK s f pos l k).length) = decide (pos < s.size) := by
  cases f with
  | zero =>
    rw [decide_eq_decide]
    simp [runesK]
    omega
  | succ f =>
    unfold runesK
    by_cases h : pos < s.size
    · rw [if_pos h]
      have := runesK_pos s f (pos + (Utf8.decode s pos).2) (if runeI s pos = 10 then l + 1 else l) (if runeI s pos = 10 then 1 else k + 1)
      simp [h]
      omega
    · rw [if_neg h]
      simp [h]
theorem rName_same (s : ByteArray) : rNameB s = isNameB s := by
  unfold rNameB isNameB runesA nameA
  rw [nameL_same s s.size 0 1 1 0 0 (by omega) (by omega) (by omega), runesK_len s s.size 0 1 1 (by omega)]
  by_cases h : (nameK s s.size 0 0).1 = s.size
  · rw [h]
    simp [Bool.and_comm]
  · simp [h]
end Go.Proofs.YtkgppagpjbkhmaaDoor
