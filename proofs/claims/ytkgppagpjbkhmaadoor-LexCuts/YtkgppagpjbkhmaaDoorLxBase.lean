/- What the lexer measures, as plain functions of bytes; the letters and digits. -/
import Derived.Test.YtkgppagpjbkhmaaDoorMem
import Derived.Test.YtkgppagpjbkhmaaDoorLexShelf
namespace Go.Proofs.YtkgppagpjbkhmaaDoor
open Go.RowKit Go.Shelf

def Hid (p : Prop) : Prop := p
theorem Hid.out {p : Prop} (h : Hid p) : p := h
theorem hid_of {p : Prop} (h : p) : Hid p := h
def letterB (r : Nat) : Bool := (decide (97 ≤ r) && decide (r ≤ 122)) || (decide (65 ≤ r) && decide (r ≤ 90)) || decide (r = 95) || (decide (945 ≤ r) && decide (r ≤ 969))
def digitB (r : Nat) : Bool := decide (48 ≤ r) && decide (r ≤ 57)
def digitV (r : Nat) : Nat := if 48 ≤ r ∧ r ≤ 57 then r - 48 else if 97 ≤ r ∧ r ≤ 102 then r - 97 + 10 else if 65 ≤ r ∧ r ≤ 70 then r - 65 + 10 else 16
theorem ret_u64 {a b : Int} (h : a = b) : Ending.returned (Value.int .u64 a) = Ending.returned (Value.int .u64 b) := by rw [h]
theorem ret_bool {a b : Bool} (h : a = b) : Ending.returned (Value.bool a) = Ending.returned (Value.bool b) := by rw [h]
set_option maxHeartbeats 400000 in
theorem isDigit_calls (r : Nat) (w : World) : Calls Tryd.prog 40 #[.int .i32 ((r : Nat) : Int)] w fun e w' => e = .returned (.bool (digitB r)) ∧ w' = w := by
  go_enter Tryd.func40, Tryd.ntmps40
  go_wp2
  all_goals
    rename_i h
    go_ret
    refine ⟨ret_bool ?_, rfl⟩
    rw [Bool.eq_iff_iff]
    simp [digitB]
    omega
set_option maxHeartbeats 1000000 in
theorem isLetter_calls (r : Nat) (w : World) : Calls Tryd.prog 46 #[.int .i32 ((r : Nat) : Int)] w fun e w' => e = .returned (.bool (letterB r)) ∧ w' = w := by
  go_enter Tryd.func46, Tryd.ntmps46
  go_wp2
  all_goals
    go_ret
    refine ⟨ret_bool ?_, rfl⟩
    rw [Bool.eq_iff_iff]
    first | (simp [letterB]; done) | (simp [letterB]; omega)
theorem digitB_iff {r : Nat} : digitB r = true ↔ 48 ≤ r ∧ r ≤ 57 := by simp [digitB]
theorem digitB_false {r : Nat} (h : ¬ (48 ≤ r ∧ r ≤ 57)) : digitB r = false := by rw [Bool.eq_false_iff]; exact fun e => h (digitB_iff.1 e)
set_option maxHeartbeats 1000000 in
theorem digit_calls (r : Nat) (w : World) : Calls Tryd.prog 51 #[.int .i32 ((r : Nat) : Int)] w fun e w' => e = .returned (.int .u64 ((digitV r : Nat) : Int)) ∧ w' = w := by
  have hc := isDigit_calls r w
  by_cases hd : 48 ≤ r ∧ r ≤ 57
  · rw [digitB_iff.2 hd] at hc
    have e : digitV r = r - 48 := by simp [digitV, hd]
    rw [e]
    go_enter Tryd.func51, Tryd.ntmps51
    go_wp2_with (go_at_call 40; refine hc.mono ?_; rintro e w' ⟨rfl, hw⟩; obtain rfl : w = w' := hw.symm)
    go_ret
    refine ⟨ret_u64 ?_, rfl⟩
    omega
  · rw [digitB_false hd] at hc
    go_enter Tryd.func51, Tryd.ntmps51
    go_wp2_with (go_at_call 40; refine hc.mono ?_; rintro e w' ⟨rfl, hw⟩; obtain rfl : w = w' := hw.symm)
    all_goals
      go_ret
      refine ⟨ret_u64 ?_, rfl⟩
      unfold digitV
      repeat' split
      all_goals omega
theorem digitV_le (r : Nat) : digitV r ≤ 16 := by
  unfold digitV
  repeat' split
  all_goals omega
/-- A rune has at least one byte, and ends within the text. -/
theorem dec_pos (s : ByteArray) (pos : Nat) : 1 ≤ (Utf8.decode s pos).2 := by
  unfold Utf8.decode
  simp only []
  repeat' split
  all_goals simp
theorem dec_le (s : ByteArray) (pos : Nat) (h : pos < s.size) : pos + (Utf8.decode s pos).2 ≤ s.size := by
  unfold Utf8.decode
  simp only []
  repeat' split
  all_goals simp_all
  all_goals omega
end Go.Proofs.YtkgppagpjbkhmaaDoor
