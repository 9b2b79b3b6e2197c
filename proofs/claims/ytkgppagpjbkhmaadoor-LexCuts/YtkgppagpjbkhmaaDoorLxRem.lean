/- The contracts of remarkAhead, letterAhead, isWord. -/
import Derived.Test.YtkgppagpjbkhmaaDoorLxMeas
namespace Go.Proofs.YtkgppagpjbkhmaaDoor
open Go.RowKit Go.Shelf

def remStop (s : ByteArray) (pos : Nat) : Bool := decide ((Utf8.decode s pos).1 = 10) || (decide ((Utf8.decode s pos).1 = 65533) && !Lib.hasPrefix (s.extract pos s.size).data.toList [239, 191, 189])
def remK (s : ByteArray) : Nat → Nat → Nat → Nat × Nat
  | 0, _, n => (s.size, n)
  | f + 1, pos, n => if pos < s.size then (if remStop s pos = true then (pos, n) else remK s f (pos + (Utf8.decode s pos).2) (n + 1)) else (s.size, n)
def remA (s : ByteArray) : Nat × Nat := remK s s.size 0 0
theorem remK_end {s : ByteArray} {f pos n : Nat} (h : ¬ pos < s.size) : remK s f pos n = (s.size, n) := by
  cases f with
  | zero => rfl
  | succ f => simp [remK, h]
set_option maxRecDepth 100000 in
set_option maxHeartbeats 1000000 in
theorem remarkAhead_calls (s : ByteArray) (w : World) (hs : s.size ≤ 9223372036854775807) :
    Calls Tryd.prog 37 #[.string s] w fun e w' => e = .returned (.tuple #[.int .i64 ((remA s).1 : Nat), .int .i64 ((remA s).2 : Nat)]) ∧ Below w.heap.size w w' := by
  go_enter Tryd.func37, Tryd.ntmps37
  go_wp2_with fail
  go_loopw [3] (fun n w' => ∃ (pos b m : Nat), w' = w.iter s pos ∧ n = .int .i64 ((m : Nat) : Int) ∧ Hid (remK s b pos m = remA s) ∧ s.size ≤ pos + b ∧ m ≤ pos ∧ pos ≤ s.size) (fun _ w' => s.size - w'.iterPos w.heap.size)
  case atStart => exact ⟨0, s.size, 0, rfl, rfl, rfl, by omega, by omega, by omega⟩
  case round =>
    obtain ⟨pos, b, m, rfl, rfl, HK, hb, hm, hps⟩ := hrel
    by_cases hp : pos < s.size
    · have hnx : ∀ ty, (Instr.next (.pointer (some ⟨w.heap.size, 0, none⟩)) true ty).run Tryd.prog (w.iter s pos) = _ := fun ty => run_next_any w s pos ty hp
      have hwd := dec_pos s pos
      have hwl := dec_le s pos hp
      obtain ⟨b', rfl⟩ : ∃ b', b = b' + 1 := ⟨b - 1, by omega⟩
      have HK2 : Hid (remK s (b' + 1) pos m = if remStop s pos = true then (pos, m) else remK s b' (pos + (Utf8.decode s pos).2) (m + 1)) := by show _ = _; simp [remK, hp]
      have HS : Hid (remStop s pos = (decide ((Utf8.decode s pos).1 = 10) || (decide ((Utf8.decode s pos).1 = 65533) && !Lib.hasPrefix (s.extract pos s.size).data.toList [239, 191, 189]))) := rfl
      generalize (Utf8.decode s pos).1 = r at *
      generalize (Utf8.decode s pos).2 = wd at *
      have hcp := Tryd.strings_HasPrefix (s.extract pos s.size) ⟨#[239, 191, 189]⟩ (w.iter s (pos + wd))
      have p0 : (0 : Int) ≤ ((pos : Nat) : Int) := by omega
      have p1 : ((pos : Nat) : Int) ≤ ((s.size : Nat) : Int) := by omega
      by_cases h10 : r = 10
      · have t1 : (((r : Nat) : Int) == 10) = true := by simp [h10]
        have HS2 : Hid (remStop s pos = true) := by rw [Hid, HS.out]; simp [h10]
        clear h10 hcp
        go_wp2_with fail
        go_ret2
        refine ⟨?_, below_iter _ _ _⟩
        rw [← HK.out, HK2.out, if_pos HS2.out]
        rfl
      · have t1 : (((r : Nat) : Int) == 10) = false := by rw [beq_eq_false_iff_ne]; omega
        by_cases hre : r = 65533
        · have t2 : (((r : Nat) : Int) == 65533) = true := by simp [hre]
          cases hq : Lib.hasPrefix (s.extract pos s.size).data.toList [239, 191, 189]
          · have HS2 : Hid (remStop s pos = true) := by rw [Hid, HS.out, hq]; simp [hre]
            rw [show (⟨#[239, 191, 189]⟩ : ByteArray).data.toList = [239, 191, 189] from rfl, hq] at hcp
            have HX := hid_of hre
            clear h10 hre
            go_wp2_with (go_at_call 36; refine hcp.mono ?_; rintro e w' ⟨rfl, hw⟩; obtain rfl := hw)
            go_ret2
            refine ⟨?_, below_iter _ _ _⟩
            rw [← HK.out, HK2.out, if_pos HS2.out]
            rfl
          · have HS2 : Hid (¬ remStop s pos = true) := by rw [Hid, HS.out, hq]; simp [h10]
            rw [show (⟨#[239, 191, 189]⟩ : ByteArray).data.toList = [239, 191, 189] from rfl, hq] at hcp
            clear h10 hre
            go_wp2_with (go_at_call 36; refine hcp.mono ?_; rintro e w' ⟨rfl, hw⟩; obtain rfl := hw)
            refine ⟨⟨pos + wd, b', m + 1, rfl, by go_num, ?_, by omega, by omega, by omega⟩, by simp; omega⟩
            rw [Hid, ← HK.out, HK2.out, if_neg HS2.out]
        · have t2 : (((r : Nat) : Int) == 65533) = false := by rw [beq_eq_false_iff_ne]; omega
          have HS2 : Hid (¬ remStop s pos = true) := by rw [Hid, HS.out]; simp [h10, hre]
          clear h10 hre hcp
          go_wp2_with fail
          refine ⟨⟨pos + wd, b', m + 1, rfl, by go_num, ?_, by omega, by omega, by omega⟩, by simp; omega⟩
          rw [Hid, ← HK.out, HK2.out, if_neg HS2.out]
    · have hnx : ∀ ty, (Instr.next (.pointer (some ⟨w.heap.size, 0, none⟩)) true ty).run Tryd.prog (w.iter s pos) = _ := fun ty => run_next_end w s pos ty hp
      go_wp2_with fail
      go_ret2
      refine ⟨?_, below_iter _ _ _⟩
      rw [← HK.out, remK_end hp]
      rfl
theorem letterAhead_calls (s : ByteArray) (w : World) (hT : Lib.Utf8Tabs 1 2 w) :
    Calls Tryd.prog 50 #[.string s] w fun e w' => e = .returned (.bool (letterB (Lib.decodeGo s).1)) ∧ Below w.heap.size w w' := by
  have hc := Tryd.utf8_DecodeRuneInString s w hT
  generalize (Lib.decodeGo s).1 = r at *
  generalize (Lib.decodeGo s).2 = z at *
  go_enter Tryd.func50, Tryd.ntmps50
  go_wp2_with fail
  refine hc.mono ?_
  rintro e w1 ⟨rfl, hB⟩
  clear hc
  go_wp2_with fail
  refine (isLetter_calls r _).mono ?_
  rintro e w2 ⟨rfl, hw⟩
  obtain rfl := hw
  go_wp2_with fail
  go_ret
  exact ⟨rfl, hB⟩
def wordsL : List (List UInt8) := [[115, 104, 97, 114, 101, 100], [116, 104, 114, 101, 97, 100], [108, 101, 116], [108, 111, 97, 100], [115, 116, 111, 114, 101], [120, 99, 104, 103], [102, 97, 100, 100], [99, 97, 115], [102, 101, 110, 99, 101], [112, 114, 105, 110, 116], [105, 102], [101, 108, 115, 101], [119, 104, 105, 108, 101], [114, 108, 120], [97, 99, 113], [114, 101, 108], [97, 99, 113, 114, 101, 108], [115, 99]]
def wordB (s : ByteArray) : Bool := wordsL.any (fun l => s.data.toList == l)
set_option maxHeartbeats 4000000 in
theorem isWord_calls (s : ByteArray) (w : World) :
    Calls Tryd.prog 33 #[.string s] w fun e w' => e = .returned (.bool (wordB s)) ∧ w' = w := by
  go_enter Tryd.func33, Tryd.ntmps33
  go_wp2
  all_goals
    go_ret
    refine ⟨ret_bool ?_, rfl⟩
    simp_all [wordB, wordsL, ByteArray.toList_eq]
end Go.Proofs.YtkgppagpjbkhmaaDoor
