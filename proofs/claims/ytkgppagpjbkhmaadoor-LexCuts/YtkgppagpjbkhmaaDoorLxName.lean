/- The contract of IsName. -/
import Derived.Test.YtkgppagpjbkhmaaDoorLxLex
namespace Go.Proofs.YtkgppagpjbkhmaaDoor
open Go.RowKit Go.Shelf

def isNameB (s : ByteArray) : Bool := decide (0 < (nameA s).1) && decide ((nameA s).1 = s.size) && !wordB s
set_option maxRecDepth 100000 in
set_option maxHeartbeats 2000000 in
theorem IsName_calls (s : ByteArray) (w : World) (hs : s.size ≤ 9223372036854775807) :
    Calls Tryd.prog 18 #[.string s] w fun e w' => e = .returned (.bool (isNameB s)) ∧ Below w.heap.size w w' := by
  have hnm := nameAhead_calls s w hs
  have HN : Hid (isNameB s = (decide (0 < (nameA s).1) && decide ((nameA s).1 = s.size) && !wordB s)) := rfl
  generalize (nameA s).1 = n at *
  generalize (nameA s).2 = m at *
  by_cases h0 : 0 < n
  · have t0 : (0 : Int) < ((n : Nat) : Int) := by omega
    by_cases h1 : n = s.size
    · have t1 : (((n : Nat) : Int) == ((s.size : Nat) : Int)) = true := by simp [h1]
      have HN2 : Hid (isNameB s = !wordB s) := HN.out.trans (by simp [h1]; omega)
      clear h0 h1 HN
      go_enter Tryd.func18, Tryd.ntmps18
      go_wp2_with fail
      refine hnm.mono ?_
      rintro e w1 ⟨rfl, hB1⟩
      go_wp2_with fail
      refine (isWord_calls s w1).mono ?_
      rintro e w2 ⟨rfl, hw2⟩
      obtain rfl : w1 = w2 := hw2.symm
      go_wp2_with fail
      go_ret
      exact ⟨by rw [HN2.out]; rfl, hB1⟩
    · have t1 : (((n : Nat) : Int) == ((s.size : Nat) : Int)) = false := by rw [beq_eq_false_iff_ne]; omega
      have HN2 : Hid (isNameB s = false) := HN.out.trans (by simp [h1])
      clear h0 h1 HN
      go_enter Tryd.func18, Tryd.ntmps18
      go_wp2_with fail
      refine hnm.mono ?_
      rintro e w1 ⟨rfl, hB1⟩
      go_wp2_with fail
      go_ret
      exact ⟨by rw [HN2.out]; rfl, hB1⟩
  · obtain rfl : n = 0 := by omega
    have HN2 : Hid (isNameB s = false) := HN.out.trans (by simp)
    clear h0 HN
    go_enter Tryd.func18, Tryd.ntmps18
    go_wp2_with fail
    refine hnm.mono ?_
    rintro e w1 ⟨rfl, hB1⟩
    go_wp2_with fail
    go_ret
    exact ⟨by rw [HN2.out]; rfl, hB1⟩
end Go.Proofs.YtkgppagpjbkhmaaDoor
