/- The statement's own helper: list. -/
import Derived.Test.YtecolbdnaipgdaaSnapTwo
namespace Go.Proofs.Ytecolbdnaipgdaa
open Go.RowKit

/-- A slice of r numbers, read as a function. -/
def RowAt (w : World) (v : Value) (r : Nat) (f : Nat → Int) : Prop := ∃ g cap, v = .slice (some ⟨g, 0, none⟩) r cap ∧ g < w.heap.size ∧ ∀ j, j < r → w.cell? ⟨g, j, none⟩ = some (.int .u64 (f j))
theorem RowAt.below {w w' : World} {v : Value} {r : Nat} {f : Nat → Int} (h : RowAt w v r f) (hb : Below w.heap.size w w') : RowAt w' v r f := by
  obtain ⟨g, cap, h1, h2, h3⟩ := h
  exact ⟨g, cap, h1, Nat.lt_of_lt_of_le h2 hb.size, fun j hj => (hb.cell (p := ⟨g, j, none⟩) h2).trans (h3 j hj)⟩
theorem owns_row {w : World} {base r : Nat} {v : Value} {f : Nat → Int} (hr : 0 < r) (h : w.ownsRow base 22 1 v r ((List.range r).map fun k => .int .u64 (f k))) : RowAt w v r f := by
  rcases h.2 with ⟨_, e2⟩ | ⟨g, cap, cur, e, _, hb, _, _, _, ht⟩
  · omega
  · refine ⟨g, cap, e, (Array.getElem?_eq_some_iff.1 hb).1, fun j hj => ?_⟩
    have hk : Blk w g 22 cur := hb
    apply hk.cell
    have : ((List.range r).map fun k => Value.int .u64 (f k))[j]? = some (.int .u64 (f j)) := by simp [hj]
    rw [← ht, List.getElem?_take_of_lt (by omega)] at this
    simpa using this
set_option maxRecDepth 100000 in
set_option maxHeartbeats 2000000 in
theorem list_calls (v1 v2 : Value) (r : Nat) (hr : r ≤ 16) (f : Nat → Int) (w : World) (h1 : RowAt w v1 r f) (h2 : RowAt w v2 r f) :
    Calls Try.prog 13 #[v1, v2] w fun e w' => e = .returned (.bool true) ∧ Below w.heap.size w w' := by
  obtain ⟨s1, c1, rfl, l1, k1⟩ := h1
  obtain ⟨s2, c2, rfl, l2, k2⟩ := h2
  go_enter Try.func13, Try.ntmps13
  go_wp2_with fail
  go_loopw [5] (fun i wr => ∃ k : Nat, k ≤ r ∧ i = .int .i64 ((k : Nat) : Int) ∧ Below w.heap.size w wr) (fun i _ => r - (intOf i).toNat)
  case atStart => exact ⟨0, by omega, rfl, Below.refl _ _⟩
  case round =>
    obtain ⟨k, hk, rfl, hB⟩ := hrel
    by_cases hlt : k < r
    · have e1 := (hB.cell (p := ⟨s1, k, none⟩) l1).trans (k1 k hlt)
      have e2 := (hB.cell (p := ⟨s2, k, none⟩) l2).trans (k2 k hlt)
      have b0 : (0 : Int) ≤ ((k : Nat) : Int) := by omega
      have b1 : ((k : Nat) : Int) < ((r : Nat) : Int) := by omega
      clear k1 k2
      go_wp2_with fail
      go_quiet (fail)
      go_wp2_with fail
      exact ⟨⟨k + 1, by omega, by go_num, below_drewN hB _⟩, by simp [intOf]; omega⟩
    · obtain rfl : k = r := by omega
      clear k1 k2 hlt
      go_wp2_with fail
      go_ret
      exact ⟨rfl, hB⟩
end Go.Proofs.Ytecolbdnaipgdaa
