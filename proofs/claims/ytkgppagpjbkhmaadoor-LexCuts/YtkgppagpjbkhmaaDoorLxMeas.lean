/- The contracts of nameAhead, remarkAhead, digitsAhead, signAhead, letterAhead, isWord. -/
import Derived.Test.YtkgppagpjbkhmaaDoorLxBase
namespace Go.Proofs.YtkgppagpjbkhmaaDoor
open Go.RowKit Go.Shelf

/-- Does no name go on with the rune at a place? -/
def nameStop (s : ByteArray) (pos : Nat) : Bool := !letterB (Utf8.decode s pos).1 && (decide (pos = 0) || !digitB (Utf8.decode s pos).1)
def nameK (s : ByteArray) : Nat → Nat → Nat → Nat × Nat
  | 0, _, n => (s.size, n)
  | f + 1, pos, n => if pos < s.size then (if nameStop s pos = true then (pos, n) else nameK s f (pos + (Utf8.decode s pos).2) (n + 1)) else (s.size, n)
def nameA (s : ByteArray) : Nat × Nat := nameK s s.size 0 0
theorem nameK_end {s : ByteArray} {f pos n : Nat} (h : ¬ pos < s.size) : nameK s f pos n = (s.size, n) := by
  cases f with
  | zero => rfl
  | succ f => simp [nameK, h]
theorem below_iter (w : World) (s : ByteArray) (pos : Nat) : Below w.heap.size w (w.iter s pos) := (Below.refl _ _).alloc (Nat.le_refl _) _
set_option maxRecDepth 100000 in
set_option maxHeartbeats 1000000 in
theorem nameAhead_calls (s : ByteArray) (w : World) (hs : s.size ≤ 9223372036854775807) :
    Calls Tryd.prog 32 #[.string s] w fun e w' => e = .returned (.tuple #[.int .i64 ((nameA s).1 : Nat), .int .i64 ((nameA s).2 : Nat)]) ∧ Below w.heap.size w w' := by
  go_enter Tryd.func32, Tryd.ntmps32
  go_wp2_with fail
  go_loopw [3] (fun n w' => ∃ (pos b m : Nat), w' = w.iter s pos ∧ n = .int .i64 ((m : Nat) : Int) ∧ Hid (nameK s b pos m = nameA s) ∧ s.size ≤ pos + b ∧ m ≤ pos ∧ pos ≤ s.size) (fun _ w' => s.size - w'.iterPos w.heap.size)
  case atStart => exact ⟨0, s.size, 0, rfl, rfl, rfl, by omega, by omega, by omega⟩
  case round =>
    obtain ⟨pos, b, m, rfl, rfl, HK, hb, hm, hps⟩ := hrel
    by_cases hp : pos < s.size
    · have hnx : ∀ ty, (Instr.next (.pointer (some ⟨w.heap.size, 0, none⟩)) true ty).run Tryd.prog (w.iter s pos) = _ := fun ty => run_next_any w s pos ty hp
      have hwd := dec_pos s pos
      have hwl := dec_le s pos hp
      obtain ⟨b', rfl⟩ : ∃ b', b = b' + 1 := ⟨b - 1, by omega⟩
      have HK2 : Hid (nameK s (b' + 1) pos m = if nameStop s pos = true then (pos, m) else nameK s b' (pos + (Utf8.decode s pos).2) (m + 1)) := by show _ = _; simp [nameK, hp]
      have HS : Hid (nameStop s pos = (!letterB (Utf8.decode s pos).1 && (decide (pos = 0) || !digitB (Utf8.decode s pos).1))) := rfl
      generalize (Utf8.decode s pos).1 = r at *
      generalize (Utf8.decode s pos).2 = wd at *
      have hcl := isLetter_calls r (w.iter s (pos + wd))
      have hcd := isDigit_calls r (w.iter s (pos + wd))
      cases hl : letterB r
      · rw [hl] at hcl
        by_cases h0 : pos = 0
        · have HS2 : Hid (nameStop s pos = true) := by rw [Hid, HS.out, hl, h0]; rfl
          have h0' : (((pos : Nat) : Int) == 0) = true := by simp [h0]
          have H0 := hid_of h0
          clear h0
          clear hcd
          go_wp2_with (go_at_call 46; refine hcl.mono ?_; rintro e w' ⟨rfl, hw⟩; obtain rfl := hw)
          go_ret2
          refine ⟨?_, below_iter _ _ _⟩
          rw [← HK.out, HK2.out, if_pos HS2.out]
          rfl
        · have h0' : (((pos : Nat) : Int) == 0) = false := by simpa using h0
          cases hd : digitB r
          · rw [hd] at hcd
            have HS2 : Hid (nameStop s pos = true) := by rw [Hid, HS.out, hl, hd]; simp
            go_wp2_with (first | (go_at_call 46; refine hcl.mono ?_; rintro e w' ⟨rfl, hw⟩; obtain rfl := hw) | (go_at_call 40; refine hcd.mono ?_; rintro e w' ⟨rfl, hw⟩; obtain rfl := hw))
            go_ret2
            refine ⟨?_, below_iter _ _ _⟩
            rw [← HK.out, HK2.out, if_pos HS2.out]
            rfl
          · rw [hd] at hcd
            have HS2 : Hid (¬ nameStop s pos = true) := by rw [Hid, HS.out, hl, hd]; simp [h0]
            go_wp2_with (first | (go_at_call 46; refine hcl.mono ?_; rintro e w' ⟨rfl, hw⟩; obtain rfl := hw) | (go_at_call 40; refine hcd.mono ?_; rintro e w' ⟨rfl, hw⟩; obtain rfl := hw))
            refine ⟨⟨pos + wd, b', m + 1, rfl, by go_num, ?_, by omega, by omega, by omega⟩, by simp; omega⟩
            rw [Hid, ← HK.out, HK2.out, if_neg HS2.out]
      · rw [hl] at hcl
        have HS2 : Hid (¬ nameStop s pos = true) := by rw [Hid, HS.out, hl]; simp
        clear hcd
        go_wp2_with (go_at_call 46; refine hcl.mono ?_; rintro e w' ⟨rfl, hw⟩; obtain rfl := hw)
        refine ⟨⟨pos + wd, b', m + 1, rfl, by go_num, ?_, by omega, by omega, by omega⟩, by simp; omega⟩
        rw [Hid, ← HK.out, HK2.out, if_neg HS2.out]
    · have hnx : ∀ ty, (Instr.next (.pointer (some ⟨w.heap.size, 0, none⟩)) true ty).run Tryd.prog (w.iter s pos) = _ := fun ty => run_next_end w s pos ty hp
      go_wp2_with fail
      go_ret2
      refine ⟨?_, below_iter _ _ _⟩
      rw [← HK.out, nameK_end hp]
      rfl
end Go.Proofs.YtkgppagpjbkhmaaDoor
