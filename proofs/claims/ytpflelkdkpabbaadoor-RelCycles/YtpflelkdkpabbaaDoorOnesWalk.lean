/- The contracts of math/bits.OnesCount64's own text, and of package rel's count and Size. -/
import Derived.Test.YtpflelkdkpabbaaDoorOnesEqB
namespace Go.Proofs.YtpflelkdkpabbaaDoor
open Go.RowKit Sx
set_option maxRecDepth 100000 in
set_option maxHeartbeats 400000 in
theorem ones_calls (x : Nat) (hx : Hid (x < 2 ^ 64)) (w : World) :
    Calls Tryd.prog 80 #[.int .u64 x] w fun e w' => e = .returned (.int .i64 (bitsN 64 x).length) ∧ w = w' := by
  have HE : Hid (_ = _) := ones_eq x hx
  go_enter Tryd.func80, Tryd.ntmps80
  go_wp2
  go_ret
  exact ⟨congrArg (fun z => Ending.returned (.int .i64 z)) HE.out, rfl⟩

def cntW (R k : Nat) : Nat := ((List.range k).map (fun j => (bitsN 64 (wd R j)).length)).foldl (· + ·) 0
theorem cntW_succ (R k : Nat) : cntW R (k + 1) = cntW R k + (bitsN 64 (wd R k)).length := by simp [cntW, List.range_succ]
theorem cntW_four (R : Nat) : cntW R 4 = (bitsOf R).length := by
  rw [bitsOf_words]
  simp [cntW, List.range, List.range.loop, wpts]
  omega
theorem bitsN_le (x : Nat) : (bitsN 64 x).length ≤ 64 := by
  have := List.length_filter_le x.testBit (List.range 64)
  simpa [bitsN] using this

set_option maxHeartbeats 1000000 in
theorem count_calls (R : Nat) (w : World) :
    Calls Tryd.prog 49 #[rv R] w fun e w' => e = .returned (.int .i64 (bitsOf R).length) ∧ Below w.heap.size w w' := by
  have H4 : Hid (_ = _) := cntW_four R
  rw [← H4.out]
  go_enter Tryd.func49, Tryd.ntmps49
  go_wp2_with fail
  go_loopw [3, 7] (fun n i wr => ∃ k : Nat, k ≤ 4 ∧ i = .int .i64 k ∧ n = .int .i64 ((cntW R k : Nat) : Int) ∧ cntW R k ≤ 64 * k ∧ Below w.heap.size w wr) (fun _ i _ => 4 - (intOf i).toNat)
  case atStart => exact ⟨0, by omega, rfl, rfl, by simp [cntW], (Below.refl _ w).alloc (Nat.le_refl _) _⟩
  case round =>
    obtain ⟨k, hk, rfl, rfl, hc, hB⟩ := hrel
    by_cases hlt : k < 4
    · have hidx := index_row R k hlt
      have HS : Hid (_ = _) := cntW_succ R k
      have hb := bitsN_le (wd R k)
      generalize cntW R k = C at *
      go_wp2_with fail
      refine (ones_calls (wd R k) (wd_lt R k) _).mono ?_
      rintro e w1 ⟨rfl, rfl⟩
      generalize (bitsN 64 (wd R k)).length = D at *
      go_wp2_with fail
      refine ⟨⟨k + 1, by omega, by go_num, by rw [HS.out]; go_num, by rw [HS.out]; omega, hB⟩, by simp [intOf]; omega⟩
    · obtain rfl : k = 4 := by omega
      go_wp2_with fail
      go_ret
      exact ⟨rfl, hB⟩

/-- How many pairs there are in the first k rows. -/
def sizeK (L : List Nat) (k : Nat) : Nat := ((List.range k).map (fun p => (bitsOf (gr L p)).length)).foldl (· + ·) 0
theorem sizeK_succ (L : List Nat) (k : Nat) : sizeK L (k + 1) = sizeK L k + (bitsOf (gr L k)).length := by simp [sizeK, List.range_succ]
def sizeL (L : List Nat) : Nat := sizeK L L.length

set_option maxHeartbeats 1000000 in
theorem Size_calls (b c : Nat) (L : List Nat) (w : World) (h : IsRel w b c L) :
    Calls Tryd.prog 18 #[pv b] w fun e w' => e = .returned (.int .i64 (sizeL L)) ∧ Below w.heap.size w w' := by
  have hl := h.len
  have hh := h.hcell
  go_enter Tryd.func18, Tryd.ntmps18
  go_wp2_with fail
  clear hh
  go_loopw [3, 11] (fun n i wr => ∃ k : Nat, k ≤ L.length ∧ i = .int .i64 k ∧ n = .int .i64 ((sizeK L k : Nat) : Int) ∧ sizeK L k ≤ 256 * k ∧ Below w.heap.size w wr) (fun _ i _ => L.length - (intOf i).toNat)
  case atStart => exact ⟨0, by omega, rfl, rfl, by simp [sizeK], Below.refl _ w⟩
  case round =>
    obtain ⟨k, hk, rfl, rfl, hc, hB⟩ := hrel
    by_cases hlt : k < L.length
    · have hI := h.below hB
      obtain ⟨_, ⟨x0, x1, x2, x3⟩, _, q1, q2⟩ := hI.slots (gr_of hlt)
      have HS : Hid (_ = _) := sizeK_succ L k
      have hb := bitsOf_length (gr L k)
      generalize sizeK L k = C at *
      go_wp2_with fail
      refine (count_calls (gr L k) _).mono ?_
      rintro e w1 ⟨rfl, hB1⟩
      generalize (bitsOf (gr L k)).length = D at *
      go_wp2_with fail
      refine ⟨⟨k + 1, by omega, by go_num, by rw [HS.out]; go_num, by rw [HS.out]; omega, ?_⟩, by simp [intOf]; omega⟩
      exact below_step (hB.alloc hB.size _) (by have := hB.size; simp; omega) hB1
    · obtain rfl : k = L.length := by omega
      go_wp2_with fail
      go_ret
      exact ⟨rfl, hB⟩
end Go.Proofs.YtpflelkdkpabbaaDoor
