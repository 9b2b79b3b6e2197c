/- The contract of package rel's rowOf: a set as a row. -/
import Derived.Test.YtpflelkdkpabbaaDoorFillMem
namespace Go.Proofs.YtpflelkdkpabbaaDoor
open Go.RowKit Go.Shelf Sx

/-- The truths lie in block s from o on. -/
structure BoolsAt (w : World) (s o : Nat) (l : List Bool) : Prop where
  lt : s < w.heap.size
  cell : ∀ (i : Nat) (x : Bool), l[i]? = some x → w.cell? ⟨s, o + i, none⟩ = some (.bool x)
theorem BoolsAt.below {w w' : World} {s o : Nat} {l : List Bool} (h : BoolsAt w s o l) (hb : Below w.heap.size w w') : BoolsAt w' s o l :=
  ⟨Nat.lt_of_lt_of_le h.lt hb.size, fun i x hx => (hb.cell (p := ⟨s, o + i, none⟩) h.lt).trans (h.cell i x hx)⟩
/-- A slice of truths, or nil. -/
def SetAt (w : World) (v : Value) (l : List Bool) : Prop := (v = .slice none 0 0 ∧ l = []) ∨ ∃ s o cap, v = .slice (some ⟨s, o, none⟩) l.length cap ∧ BoolsAt w s o l
theorem SetAt.below {w w' : World} {v : Value} {l : List Bool} (h : SetAt w v l) (hb : Below w.heap.size w w') : SetAt w' v l := by
  rcases h with h | ⟨s, o, cap, h1, h2⟩
  · exact .inl h
  · exact .inr ⟨s, o, cap, h1, h2.below hb⟩
theorem SetAt.drew {w : World} {v : Value} {l : List Bool} (h : SetAt w v l) : SetAt w.drew v l := h.below ⟨rfl, rfl, rfl, Nat.le_refl _, fun _ _ => rfl⟩

def rowOfK (l : List Bool) (k : Nat) : Nat := (List.range k).foldl (fun s p => setB s p (l.getD p false)) 0
theorem rowOfK_succ (l : List Bool) (k : Nat) : rowOfK l (k + 1) = setB (rowOfK l k) k (l.getD k false) := by simp [rowOfK, List.range_succ]
def rowOfL (n : Nat) (l : List Bool) : Nat := rowOfK l (min n l.length)
theorem testBit_rowOfK (l : List Bool) (k p : Nat) : (rowOfK l k).testBit p = (decide (p < k) && l.getD p false) := by
  induction k with
  | zero => simp [rowOfK]
  | succ k ih =>
    rw [rowOfK_succ, testBit_setB, ih]
    by_cases h : p = k
    · subst h; simp
    · rw [if_neg h]
      by_cases h2 : p < k
      · rw [decide_eq_true h2, decide_eq_true (show p < k + 1 by omega)]
      · rw [decide_eq_false h2, decide_eq_false (show ¬ p < k + 1 by omega)]
theorem rowOfL_lt (n : Nat) (l : List Bool) : rowOfL n l < 2 ^ n := lt_pow_of_testBit fun i hi => by rw [rowOfL, testBit_rowOfK, decide_eq_false (by omega), Bool.false_and]

set_option maxHeartbeats 2000000 in
theorem rowOf_at (n : Nat) (hn : n ≤ 256) (s o cap : Nat) (l : List Bool) (w : World) (h : BoolsAt w s o l) (m : Nat) (HM : Hid (min n l.length = m)) :
    Calls Tryd.prog 47 #[.int .i64 n, .slice (some ⟨s, o, none⟩) l.length cap] w fun e w' => e = .returned (rv (rowOfK l m)) ∧ Below w.heap.size w w' := by
  have hmin : (if n < l.length then (n : Int) else (l.length : Int)) = (m : Int) := by rw [← HM.out]; split <;> omega
  have hmin2 : (if l.length < n then (l.length : Int) else (n : Int)) = (m : Int) := by rw [← HM.out]; split <;> omega
  have hmn : m ≤ n := by rw [← HM.out]; omega
  have hml : m ≤ l.length := by rw [← HM.out]; omega
  have hs := h.lt
  go_enter Tryd.func47, Tryd.ntmps47
  go_wp2_with fail
  clear hmin hmin2
  go_loopw [11] (fun i wr => ∃ k : Nat, k ≤ m ∧ i = .int .i64 k ∧ Blk wr w.heap.size 71 (rcs 0) ∧ Blk wr (w.heap.size + 1) 71 (rcs (rowOfK l k)) ∧ Below w.heap.size w wr) (fun i _ => m - (intOf i).toNat)
  case atStart =>
    refine ⟨0, by omega, rfl, ?_, ?_, ((Below.refl _ w).alloc (Nat.le_refl _) _).alloc (by simp) _⟩
    · rw [rcs_zero]; exact (Blk.new w _ _).alloc _
    · rw [show rowOfK l 0 = 0 from rfl, rcs_zero]; exact Blk.new2 w _ _ _
  case round =>
    obtain ⟨k, hk, rfl, hR, hO, hB⟩ := hrel
    by_cases hlt : k < m
    · have hlk : k < l.length := by omega
      have hx : l[k]? = some (l.getD k false) := by simp [List.getD, hlk]
      have c0 := (h.below hB).cell k _ hx
      have HE : Hid (_ = _) := rowOfK_succ l k
      generalize l.getD k false = x at *
      have hsz := hB.size
      obtain ⟨⟨y0, y1, y2, y3⟩, _, y5⟩ := hO.row
      clear hx
      go_wp2_with fail
      go_region_with (first | (go_at_call 45; refine (with_calls (rowOfK l k) k x (by omega) _).mono ?_; rw [← HE.out]; rintro e w3 ⟨rfl, hB3⟩; have hO3 := hO.drew.of_below hB3; obtain ⟨⟨t0, t1, t2, t3⟩, ⟨f0, f1, f2, f3⟩, t5⟩ := hO3.row))
      all_goals
        go_wp2_with fail
        have hB4 : Below w.heap.size w w3 := below_step hB hsz (below_of_drew' hB3)
        have hR3 := hR.drew.of_below hB3
        exact ⟨⟨k + 1, by omega, by go_num, hR3.otherRow (by omega) _ _ _ _ _ _ _ _, hO3.setRow _, below_setRow hB4 (by omega) _ _ _ _ _ _ _ _⟩, by simp [intOf]; omega⟩
    · obtain rfl : k = m := by omega
      obtain ⟨⟨y0, y1, y2, y3⟩, _, y5⟩ := hO.row
      obtain ⟨⟨t0, t1, t2, t3⟩, ⟨f0, f1, f2, f3⟩, t5⟩ := hR.row
      obtain ⟨⟨r0, r1, r2, r3⟩, _, _⟩ := (hR.setRow (rowOfK l k)).row
      go_wp2_with fail
      exact bodyPost_ret (v := rv (rowOfK l k)) (by simp [results, Tryd.results47, go_sem, r0, r1, r2, r3]) rfl ⟨rfl, below_setRow hB (Nat.le_refl _) _ _ _ _ _ _ _ _⟩
set_option maxHeartbeats 1000000 in
theorem rowOf_nil (n : Nat) (hn : n ≤ 256) (w : World) :
    Calls Tryd.prog 47 #[.int .i64 n, .slice none 0 0] w fun e w' => e = .returned (rv 0) ∧ Below w.heap.size w w' := by
  have H : Hid (rv 0 = .agg #[.int .u64 0, .int .u64 0, .int .u64 0, .int .u64 0]) := by show _ = _; simp [rv, wd_zero]
  rw [H.out]
  rcases Nat.eq_zero_or_pos n with rfl | hp
  all_goals
    go_enter Tryd.func47, Tryd.ntmps47
    go_wp2_with fail
    go_loopw [11] (fun i wr => i = .int .i64 0 ∧ wr = (w.alloc (.cells #[.int .u64 0, .int .u64 0, .int .u64 0, .int .u64 0] 71)).alloc (.cells #[.int .u64 0, .int .u64 0, .int .u64 0, .int .u64 0] 71)) (fun _ _ => 0)
    case atStart => exact ⟨rfl, rfl⟩
    case round =>
      obtain ⟨rfl, rfl⟩ := hrel
      go_wp2_with fail
      exact bodyPost_ret (v := .agg #[.int .u64 0, .int .u64 0, .int .u64 0, .int .u64 0]) (by simp [results, Tryd.results47, go_sem]) rfl ⟨rfl, ((Below.refl _ w).alloc (Nat.le_refl _) _).alloc (by simp) _⟩
theorem rowOf_calls (n : Nat) (hn : n ≤ 256) (v : Value) (l : List Bool) (w : World) (h : SetAt w v l) :
    Calls Tryd.prog 47 #[.int .i64 n, v] w fun e w' => e = .returned (rv (rowOfL n l)) ∧ Below w.heap.size w w' := by
  rcases h with ⟨rfl, rfl⟩ | ⟨s, o, cap, rfl, hb⟩
  · rw [show rowOfL n [] = 0 from by simp [rowOfL, rowOfK]]
    exact rowOf_nil n hn w
  · exact rowOf_at n hn s o cap l w hb _ rfl
end Go.Proofs.YtpflelkdkpabbaaDoor
