/- What a look's compare tells, in the run of one goroutine: behind the first collect, and where nothing has changed. -/
import Derived.Test.YtecolbdnaipgdaaSnapLoad
namespace Go.Proofs.Ytecolbdnaipgdaa
open Go.RowKit

set_option maxHeartbeats 2000000 in
theorem cmp_first (LK : Nat) (sp : Value) (lp : Option Addr) (lc : Nat) (this mv : Value) (w : World) (hL : Blk w LK 107 #[sp, .slice lp 0 lc, this, mv]) :
    Calls Try.prog 40 #[pv LK] w fun e w' => e = .returned (.slice none 0 0) ∧ w' = w := by
  have q1 := hL.cell (j := 1) rfl
  go_enter Try.func40, Try.ntmps40
  go_wp2_with fail
  go_ret
  exact ⟨rfl, rfl⟩
set_option maxRecDepth 100000 in
set_option maxHeartbeats 4000000 in
theorem cmp_same (LK : Nat) (sp : Value) (p1 p2 : Option Addr) (c1 c2 : Nat) (mv : Value) (l : List (Option Addr)) (f : Nat → Int) (w : World) (hL : Blk w LK 107 #[sp, .slice p1 l.length c1, .slice p2 l.length c2, mv]) (h1 : PtrsAt w (.slice p1 l.length c1) l) (h2 : PtrsAt w (.slice p2 l.length c2) l) (hl : l.length ≤ 16) (hpos : 0 < l.length)
    (hn : ∀ i p, l[i]? = some p → NumAt w p (f i)) :
    Calls Try.prog 40 #[pv LK] w fun e w' => ∃ g, e = .returned (.slice (some ⟨g, 0, none⟩) l.length l.length) ∧ w.heap.size ≤ g ∧ Blk w' g 22 (rowU l.length f) ∧ Below w.heap.size w w' := by
  have q1 := hL.cell (j := 1) rfl
  have q2 := hL.cell (j := 2) rfl
  have hz : (((l.length : Nat) : Int) == 0) = false := by rw [beq_eq_false_iff_ne]; omega
  go_enter Try.func40, Try.ntmps40
  go_wp2_with fail
  go_region_held3 (fun w' => w'.cell? ⟨LK, 1, none⟩ = some (.slice p1 l.length c1) ∧ w'.cell? ⟨LK, 2, none⟩ = some (.slice p2 l.length c2)) (first | assumption | exact ⟨q1, q2⟩)
    (first | (go_at_call 46; refine (slEqualRec_calls _ _ l w.drew (h2.below (Below.refl _ _).drew) (h1.below (Below.refl _ _).drew) hl).mono ?_; rintro e w1 ⟨rfl, hB1⟩; have hB1 := below_of_drew' hB1; have hL1 := hL.of_below hB1; have K1 : w1.cell? ⟨LK, 1, none⟩ = some (.slice p1 l.length c1) ∧ w1.cell? ⟨LK, 2, none⟩ = some (.slice p2 l.length c2) := ⟨hL1.cell rfl, hL1.cell rfl⟩))
  have q2 := hL1.cell (j := 2) rfl
  go_wp2_with fail
  refine (numbers_calls _ l f w1 (h2.below hB1) hl (fun i p hi => (hn i p hi).below hB1)).mono ?_
  rintro e w2 ⟨g, rfl, hg, hU, hB2⟩
  have hgw : w.heap.size ≤ g := Nat.le_trans hB1.size hg
  go_wp2_with fail
  go_ret
  exact ⟨g, rfl, hgw, hU, below_step hB1 hB1.size hB2⟩
end Go.Proofs.Ytecolbdnaipgdaa
