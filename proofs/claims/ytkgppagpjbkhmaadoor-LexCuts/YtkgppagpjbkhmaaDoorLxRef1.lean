/- The contracts of the reference's blank, sixteen, here, signs, begins. -/
import Derived.Test.YtkgppagpjbkhmaaDoorLxSame
import Derived.BigQuiet
namespace Go.Proofs.YtkgppagpjbkhmaaDoor
open Go.RowKit Go.Shelf

def blankRB (x : Rn) : Bool := decide (0 < x.n) && (decide (x.r = 9) || decide (x.r = 10) || decide (x.r = 13) || decide (x.r = 32))
set_option maxHeartbeats 4000000 in
theorem rBlank_calls (x : Rn) (w : World) : Calls Tryd.prog 43 #[.agg (rnC x)] w fun e w' => e = .returned (.bool (blankRB x)) ∧ Below w.heap.size w w' := by
  have hB : Hid (∀ o, Below w.heap.size w (w.alloc o)) := fun o => (Below.refl w.heap.size w).alloc (Nat.le_refl _) o
  obtain ⟨r, a, n, l, k⟩ := x
  have HD : Hid (∀ r : Int, blankRB ⟨r, a, n, l, k⟩ = (decide (0 < n) && (decide (r = 9) || decide (r = 10) || decide (r = 13) || decide (r = 32)))) := fun _ => rfl
  unfold rnC
  simp only []
  go_enter Tryd.func43, Tryd.ntmps43
  go_wp2
  all_goals
    go_ret
    refine ⟨ret_bool ?_, hB.out _⟩
    rw [HD.out, Bool.eq_iff_iff]
    first | (simp; done) | (simp; omega)
theorem rHere_calls (x : Rn) (w : World) : Calls Tryd.prog 31 #[.agg (rnC x)] w fun e w' => e = .returned (.agg (fltA 20 x.line x.col)) ∧ Below w.heap.size w w' := by
  have hB : Hid (∀ o o', Below w.heap.size w ((w.alloc o).alloc o')) := fun o o' => ((Below.refl w.heap.size w).alloc (Nat.le_refl _) o).alloc (by simp) o'
  obtain ⟨r, a, n, l, k⟩ := x
  unfold rnC
  simp only []
  go_enter Tryd.func31, Tryd.ntmps31
  go_wp2_with fail
  have hN := Blk.new (w.alloc (.cells (rnC ⟨r, a, n, l, k⟩) 52)) 38 (fltA 20 l k)
  rw [World.size_alloc] at hN
  exact bodyPost_ret (results_cell_row rfl _ _ (w.heap.size + 1) 38 (fltA 20 l k) (0, 0) _ rfl hN Tryd.underlying38 rfl (by kernel_rfl)) rfl ⟨rfl, hB.out _ _⟩
def sixN (x : Rn) : Nat := if digitRB x = true then (x.r - 48).toNat else if 0 < x.n ∧ 97 ≤ x.r ∧ x.r ≤ 102 then (x.r - 87).toNat else if 0 < x.n ∧ 65 ≤ x.r ∧ x.r ≤ 70 then (x.r - 55).toNat else 16
theorem digitRB_iff (x : Rn) : digitRB x = true ↔ 0 < x.n ∧ 48 ≤ x.r ∧ x.r ≤ 57 := by simp [digitRB]
theorem rSigns_calls (w : World) : Calls Tryd.prog 29 #[] w fun e w' => e = .returned (.slice (some ⟨w.heap.size, 0, none⟩) 25 25) ∧ w' = w.alloc (.cells signsA 9) := by
  go_enter Tryd.func29, Tryd.ntmps29
  go_wp2_with fail
  go_ret
  exact ⟨rfl, rfl⟩
set_option maxHeartbeats 4000000 in
theorem rSix_calls (x : Rn) (w : World) : Calls Tryd.prog 44 #[.agg (rnC x)] w fun e w' => e = .returned (.int .i64 ((sixN x : Nat) : Int)) ∧ Below w.heap.size w w' := by
  have hB : Hid (∀ o, Below w.heap.size w (w.alloc o)) := fun o => (Below.refl w.heap.size w).alloc (Nat.le_refl _) o
  have hcd := fun W => rDigit_calls x W
  obtain ⟨r, a, n, l, k⟩ := x
  have HS : Hid (sixN ⟨r, a, n, l, k⟩ = if digitRB ⟨r, a, n, l, k⟩ = true then (r - 48).toNat else if 0 < n ∧ 97 ≤ r ∧ r ≤ 102 then (r - 87).toNat else if 0 < n ∧ 65 ≤ r ∧ r ≤ 70 then (r - 55).toNat else 16) := rfl
  have hiff := digitRB_iff ⟨r, a, n, l, k⟩
  simp only [] at hiff
  unfold rnC at hcd ⊢
  simp only [] at hcd ⊢
  cases hd : digitRB ⟨r, a, n, l, k⟩
  · rw [hd] at hcd HS hiff
    by_cases h1 : 0 < n ∧ 97 ≤ r ∧ r ≤ 102
    · have e1 : sixN ⟨r, a, n, l, k⟩ = (r - 87).toNat := by rw [HS.out, if_neg Bool.false_ne_true, if_pos h1]
      obtain ⟨z1, z2, z3⟩ := h1
      have z4 : (0 : Int) < ((n : Nat) : Int) := by omega
      have HE : Hid (Value.int .i64 (r - 87) = .int .i64 ((sixN ⟨r, a, n, l, k⟩ : Nat) : Int)) := by rw [Hid, e1]; congr 1; omega
      have w5 : wrap64 (r - 87) = r - 87 := by unfold wrap64; omega
      clear HS hiff hd e1
      go_enter Tryd.func44, Tryd.ntmps44
      go_wp2_with fail
      refine (hcd _).mono ?_
      rintro e w2 ⟨rfl, hb2⟩
      have hb := below_step (hB.out _) (hB.out _).size hb2
      have c0 : w2.cell? ⟨w.heap.size, 0, none⟩ = some (.int .i64 r) := by
        refine (hb2.cell (p := ⟨w.heap.size, 0, none⟩) (by simp)).trans ?_
        exact (Blk.new w 52 _).cell rfl
      have c2 : w2.cell? ⟨w.heap.size, 2, none⟩ = some (.int .i64 ((n : Nat) : Int)) := by
        refine (hb2.cell (p := ⟨w.heap.size, 2, none⟩) (by simp)).trans ?_
        exact (Blk.new w 52 _).cell rfl
      go_wp2_with fail
      go_ret
      exact ⟨congrArg Ending.returned HE.out, hb⟩
    · have n1 : ¬ (0 < n ∧ 97 ≤ r ∧ r ≤ 102) := h1
      by_cases h2 : 0 < n ∧ 65 ≤ r ∧ r ≤ 70
      · have e1 : sixN ⟨r, a, n, l, k⟩ = (r - 55).toNat := by rw [HS.out, if_neg Bool.false_ne_true, if_neg h1, if_pos h2]
        obtain ⟨z1, z2, z3⟩ := h2
        have z4 : (0 : Int) < ((n : Nat) : Int) := by omega
        have z5 : ¬ (97 : Int) ≤ r := by omega
        have HE : Hid (Value.int .i64 (r - 55) = .int .i64 ((sixN ⟨r, a, n, l, k⟩ : Nat) : Int)) := by rw [Hid, e1]; congr 1; omega
        have w5 : wrap64 (r - 55) = r - 55 := by unfold wrap64; omega
        clear HS hiff hd e1 h1 n1
        go_enter Tryd.func44, Tryd.ntmps44
        go_wp2_with fail
        refine (hcd _).mono ?_
        rintro e w2 ⟨rfl, hb2⟩
        have hb := below_step (hB.out _) (hB.out _).size hb2
        have c0 : w2.cell? ⟨w.heap.size, 0, none⟩ = some (.int .i64 r) := by
          refine (hb2.cell (p := ⟨w.heap.size, 0, none⟩) (by simp)).trans ?_
          exact (Blk.new w 52 _).cell rfl
        have c2 : w2.cell? ⟨w.heap.size, 2, none⟩ = some (.int .i64 ((n : Nat) : Int)) := by
          refine (hb2.cell (p := ⟨w.heap.size, 2, none⟩) (by simp)).trans ?_
          exact (Blk.new w 52 _).cell rfl
        go_wp2_with fail
        go_ret
        exact ⟨congrArg Ending.returned HE.out, hb⟩
      · have HE : Hid (Value.int .i64 16 = .int .i64 ((sixN ⟨r, a, n, l, k⟩ : Nat) : Int)) := by rw [Hid, HS.out, if_neg Bool.false_ne_true, if_neg h1, if_neg h2]; rfl
        have HN : Hid (¬ (0 < n ∧ 97 ≤ r ∧ r ≤ 102) ∧ ¬ (0 < n ∧ 65 ≤ r ∧ r ≤ 70)) := ⟨h1, h2⟩
        clear HS hiff hd h1 h2 n1
        go_enter Tryd.func44, Tryd.ntmps44
        go_wp2_with fail
        refine (hcd _).mono ?_
        rintro e w2 ⟨rfl, hb2⟩
        have hb := below_step (hB.out _) (hB.out _).size hb2
        have c0 : w2.cell? ⟨w.heap.size, 0, none⟩ = some (.int .i64 r) := by
          refine (hb2.cell (p := ⟨w.heap.size, 0, none⟩) (by simp)).trans ?_
          exact (Blk.new w 52 _).cell rfl
        have c2 : w2.cell? ⟨w.heap.size, 2, none⟩ = some (.int .i64 ((n : Nat) : Int)) := by
          refine (hb2.cell (p := ⟨w.heap.size, 2, none⟩) (by simp)).trans ?_
          exact (Blk.new w 52 _).cell rfl
        have hc0 : w.heap.size < w2.heap.size := by have := hb2.size; simp at this; omega
        go_wp2
        all_goals first
          | (exfalso; have := HN.out; omega)
          | (go_ret; exact ⟨congrArg Ending.returned HE.out, hb⟩)
  · obtain ⟨z1, z2, z3⟩ := hiff.1 hd
    rw [hd] at hcd HS
    have e1 : sixN ⟨r, a, n, l, k⟩ = (r - 48).toNat := by rw [HS.out, if_pos rfl]
    have HE : Hid (Value.int .i64 (r - 48) = .int .i64 ((sixN ⟨r, a, n, l, k⟩ : Nat) : Int)) := by rw [Hid, e1]; congr 1; omega
    have w5 : wrap64 (r - 48) = r - 48 := by unfold wrap64; omega
    clear HS hiff hd e1
    go_enter Tryd.func44, Tryd.ntmps44
    go_wp2_with fail
    refine (hcd _).mono ?_
    rintro e w2 ⟨rfl, hb2⟩
    have hb := below_step (hB.out _) (hB.out _).size hb2
    have c0 : w2.cell? ⟨w.heap.size, 0, none⟩ = some (.int .i64 r) := by
      refine (hb2.cell (p := ⟨w.heap.size, 0, none⟩) (by simp)).trans ?_
      exact (Blk.new w 52 _).cell rfl
    go_wp2_with fail
    go_ret
    exact ⟨congrArg Ending.returned HE.out, hb⟩
end Go.Proofs.YtkgppagpjbkhmaaDoor
