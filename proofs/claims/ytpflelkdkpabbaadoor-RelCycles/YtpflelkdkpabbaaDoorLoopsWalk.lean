/- The contract of package rel's loops: the points that are in a pair with themselves. -/
import Derived.Test.YtpflelkdkpabbaaDoorFillMem
namespace Go.Proofs.YtpflelkdkpabbaaDoor
open Go.RowKit Go.Shelf Sx
def loopsK (L : List Nat) (k : Nat) : Nat := (List.range k).foldl (fun s p => setB s p ((gr L p).testBit p)) 0
theorem loopsK_succ (L : List Nat) (k : Nat) : loopsK L (k + 1) = setB (loopsK L k) k ((gr L k).testBit k) := by simp [loopsK, List.range_succ]
def loopsL (L : List Nat) : Nat := loopsK L L.length

set_option maxHeartbeats 2000000 in
theorem loops_calls (b c : Nat) (L : List Nat) (w : World) (h : IsRel w b c L) :
    Calls Tryd.prog 74 #[pv b] w fun e w' => e = .returned (rv (loopsL L)) ∧ Below w.heap.size w w' := by
  have hl := h.len
  have hb := h.head.lt
  have hc := h.rows.lt
  have hh := h.hcell
  go_enter Tryd.func74, Tryd.ntmps74
  go_wp2_with fail
  clear hh
  go_loopw [11] (fun i wr => ∃ k : Nat, k ≤ L.length ∧ i = .int .i64 k ∧ Blk wr w.heap.size 71 (rcs 0) ∧ Blk wr (w.heap.size + 1) 71 (rcs (loopsK L k)) ∧ Below w.heap.size w wr) (fun i _ => L.length - (intOf i).toNat)
  case atStart =>
    refine ⟨0, by omega, rfl, ?_, ?_, ((Below.refl _ w).alloc (Nat.le_refl _) _).alloc (by simp) _⟩
    · rw [rcs_zero]; exact (Blk.new w _ _).alloc _
    · rw [show loopsK L 0 = 0 from rfl, rcs_zero]; exact Blk.new2 w _ _ _
  case round =>
    obtain ⟨k, hk, rfl, hR, hO, hB⟩ := hrel
    by_cases hlt : k < L.length
    · have hI := h.below hB
      obtain ⟨_, ⟨x0, x1, x2, x3⟩, _, q1, q2⟩ := hI.slots (gr_of hlt)
      have hsz := hB.size
      have HE : Hid (_ = _) := loopsK_succ L k
      go_wp2_with fail
      clear x0 x1 x2 x3 q1 q2
      have hO' := hO.alloc (.cells (rcs (gr L k)) 71)
      obtain ⟨⟨y0, y1, y2, y3⟩, _, y5⟩ := hO.row
      have hB1 : Below w.heap.size w (wr.alloc (.cells (rcs (gr L k)) 71)) := hB.alloc hsz _
      go_region_with (first | (go_at_call 44; refine (has_calls (gr L k) k (by omega) _).mono ?_; rintro e w2 ⟨rfl, hB2⟩; have hO2 := hO'.drew.of_below hB2; obtain ⟨⟨z0, z1, z2, z3⟩, _, z5⟩ := hO2.row) | (go_at_call 45; refine (with_calls (loopsK L k) k _ (by omega) _).mono ?_; rw [← HE.out]; rintro e w3 ⟨rfl, hB3⟩; have hO3 := hO2.of_below hB3; obtain ⟨⟨t0, t1, t2, t3⟩, ⟨f0, f1, f2, f3⟩, t5⟩ := hO3.row))
      all_goals
        go_wp2_with fail
        have hB4 : Below w.heap.size w w3 := (hB1.trans (below_of_drew (hB2.mono (by simp; omega)))).trans (hB3.mono (Nat.le_trans (Nat.le_trans hB1.size (by simp)) hB2.size))
        have hR3 := (((hR.alloc (.cells (rcs (gr L k)) 71)).drew.of_below hB2).of_below hB3)
        exact ⟨⟨k + 1, by omega, by go_num, hR3.otherRow (by omega) _ _ _ _ _ _ _ _, hO3.setRow _, below_setRow hB4 (by omega) _ _ _ _ _ _ _ _⟩, by simp [intOf]; omega⟩
    · obtain rfl : k = L.length := by omega
      obtain ⟨⟨y0, y1, y2, y3⟩, _, y5⟩ := hO.row
      obtain ⟨⟨t0, t1, t2, t3⟩, ⟨f0, f1, f2, f3⟩, t5⟩ := hR.row
      obtain ⟨⟨r0, r1, r2, r3⟩, _, _⟩ := (hR.setRow (loopsK L L.length)).row
      go_wp2_with fail
      exact bodyPost_ret (v := rv (loopsL L)) (by simp [results, Tryd.results74, go_sem, r0, r1, r2, r3, loopsL]) rfl ⟨rfl, below_setRow hB (Nat.le_refl _) _ _ _ _ _ _ _ _⟩
end Go.Proofs.YtpflelkdkpabbaaDoor
