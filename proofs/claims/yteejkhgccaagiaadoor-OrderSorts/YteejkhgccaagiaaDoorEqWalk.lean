/- The contracts of slices.Equal at rows, and of package rel's Equal. -/
import Derived.Test.YteejkhgccaagiaaDoorFillMem
namespace Go.Proofs.YteejkhgccaagiaaDoor
open Go.RowKit Sx

theorem rows_eq (R S : Nat) (hR : R < 2 ^ 256) (hS : S < 2 ^ 256) : (((wd R 0 : Nat) : Int) == ((wd S 0 : Nat) : Int) && (((wd R 1 : Nat) : Int) == ((wd S 1 : Nat) : Int) && (((wd R 2 : Nat) : Int) == ((wd S 2 : Nat) : Int) && ((wd R 3 : Nat) : Int) == ((wd S 3 : Nat) : Int)))) = (R == S) := by
  rw [Bool.eq_iff_iff]
  simp only [Bool.and_eq_true, beq_iff_eq]
  constructor
  · rintro ⟨h0, h1, h2, h3⟩
    refine wd_ext hR hS (fun j hj => ?_)
    have : j = 0 ∨ j = 1 ∨ j = 2 ∨ j = 3 := by omega
    rcases this with rfl | rfl | rfl | rfl <;> omega
  · rintro rfl
    simp
theorem list_eq_gr {A B : List Nat} (hl : A.length = B.length) (h : ∀ i, i < A.length → gr A i = gr B i) : A = B := by
  apply List.ext_getElem?
  intro i
  by_cases hi : i < A.length
  · rw [gr_of hi, gr_of (by omega), h i hi]
  · rw [List.getElem?_eq_none (by omega), List.getElem?_eq_none (by omega)]

set_option maxRecDepth 100000 in
set_option maxHeartbeats 2000000 in
theorem slEqual_calls (ba ca bb cb : Nat) (A B : List Nat) (w : World) (ha : IsRel w ba ca A) (hb : IsRel w bb cb B) :
    Calls Tryd.prog 45 #[.slice (some ⟨ca, 0, none⟩) A.length A.length, .slice (some ⟨cb, 0, none⟩) B.length B.length] w fun e w' => e = .returned (.bool (A == B)) ∧ Below w.heap.size w w' := by
  have hla := ha.len
  have hlb := hb.len
  by_cases hl : A.length = B.length
  · have HL : Hid (A.length = B.length) := hl
    have hn : ((A.length : Int) != (B.length : Int)) = false := by rw [hl]; simp
    have he := eql_rows
    clear hl
    go_enter Tryd.func45, Tryd.ntmps45
    go_wp2_with fail
    go_loopw [13] (fun i wr => ∃ k : Nat, k ≤ A.length ∧ i = .int .i64 k ∧ Hid (∀ i, i < k → gr A i = gr B i) ∧ Below w.heap.size w wr) (fun i _ => A.length - (intOf i).toNat)
    case atStart => exact ⟨0, by omega, rfl, fun i h => by omega, Below.refl _ _⟩
    case round =>
      obtain ⟨k, hk, rfl, HC, hB⟩ := hrel
      by_cases hlt : k < A.length
      · have hltB : k < B.length := by rw [← HL.out]; exact hlt
        obtain ⟨x0, x1, x2, x3⟩ := (ha.below hB).cells (gr_of hlt)
        obtain ⟨y0, y1, y2, y3⟩ := (hb.below hB).cells (gr_of hltB)
        have HR : Hid (_ = _) := rows_eq (gr A k) (gr B k) (Nat.lt_of_lt_of_le (ha.gr_lt k) (Nat.pow_le_pow_right (by omega) hla)) (Nat.lt_of_lt_of_le (hb.gr_lt k) (Nat.pow_le_pow_right (by omega) hlb))
        go_wp2_with fail
        go_region
        have HN : Hid ((!((wd (gr A k) 0 : Nat) : Int) == ((wd (gr B k) 0 : Nat) : Int) || (!((wd (gr A k) 1 : Nat) : Int) == ((wd (gr B k) 1 : Nat) : Int) || (!((wd (gr A k) 2 : Nat) : Int) == ((wd (gr B k) 2 : Nat) : Int) || !((wd (gr A k) 3 : Nat) : Int) == ((wd (gr B k) 3 : Nat) : Int)))) = !(gr A k == gr B k)) := by
          show _ = _
          rw [← HR.out]
          simp only [Bool.not_and]
        rw [HN.out]
        clear HN x0 x1 x2 x3 y0 y1 y2 y3 he
        cases hq : (gr A k == gr B k)
        · have Hq : Hid (¬ gr A k = gr B k) := by intro e; rw [e] at hq; simp at hq
          go_wp2_with fail
          go_ret
          refine ⟨?_, hB.drew⟩
          have : (A == B) = false := by
            apply Bool.eq_false_iff.2
            intro e
            rw [eq_of_beq e] at Hq
            exact Hq.out rfl
          rw [this]; rfl
        · have Hq : Hid (gr A k = gr B k) := eq_of_beq hq
          go_wp2_with fail
          refine ⟨⟨k + 1, by omega, by go_num, ?_, hB.drew⟩, by simp [intOf]; omega⟩
          intro i hi
          by_cases e : i = k
          · rw [e]; exact Hq.out
          · exact HC.out i (by omega)
      · obtain rfl : k = A.length := by omega
        go_wp2_with fail
        go_ret
        refine ⟨?_, hB⟩
        rw [list_eq_gr HL.out HC.out]; simp
  · have HL : Hid (¬ A.length = B.length) := hl
    have hn : ((A.length : Int) != (B.length : Int)) = true := by rw [bne_iff_ne]; omega
    clear hl
    go_enter Tryd.func45, Tryd.ntmps45
    go_wp2_with fail
    go_ret
    refine ⟨?_, Below.refl _ _⟩
    have : (A == B) = false := by
      apply Bool.eq_false_iff.2
      intro e
      rw [eq_of_beq e] at HL
      exact HL.out rfl
    rw [this]; rfl

set_option maxHeartbeats 1000000 in
theorem Equal_calls (ba ca bb cb : Nat) (A B : List Nat) (w : World) (ha : IsRel w ba ca A) (hb : IsRel w bb cb B) :
    Calls Tryd.prog 18 #[pv ba, pv bb] w fun e w' => e = .returned (.bool (A == B)) ∧ Below w.heap.size w w' := by
  have x := ha.hcell
  have y := hb.hcell
  go_enter Tryd.func18, Tryd.ntmps18
  go_wp2_with fail
  go_region_held3 (fun w' => w'.cell? ⟨ba, 0, none⟩ = some (.slice (some ⟨ca, 0, none⟩) A.length A.length) ∧ w'.cell? ⟨bb, 0, none⟩ = some (.slice (some ⟨cb, 0, none⟩) B.length B.length)) (go_keep)
    (first | (go_at_call 45; refine (slEqual_calls ba ca bb cb A B _ ha.drew hb.drew).mono ?_; rintro e w2 ⟨rfl, hB2⟩; clear x y; have x := (ha.drew.below hB2).hcell; have y := (hb.drew.below hB2).hcell))
  all_goals
    go_wp2_with fail
    go_ret
    exact ⟨rfl, below_of_drew' hB2⟩
end Go.Proofs.YteejkhgccaagiaaDoor
