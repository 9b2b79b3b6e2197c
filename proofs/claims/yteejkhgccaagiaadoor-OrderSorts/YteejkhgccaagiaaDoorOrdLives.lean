/- The statements' lives. -/
import Derived.Test.YteejkhgccaagiaaDoorOrdFns
namespace Go.Proofs.YteejkhgccaagiaaDoor
open Go.RowKit Go.Shelf Sx

theorem four_ints (w : World) (a b c d : Int) : IntsR (w.alloc (.cells #[.int .i64 a, .int .i64 b, .int .i64 c, .int .i64 d] 3)) (.slice (some ⟨w.heap.size, 0, none⟩) 4 4) [a, b, c, d] := by
  have hk := Blk.new w 3 #[.int .i64 a, .int .i64 b, .int .i64 c, .int .i64 d]
  refine .inr ⟨w.heap.size, 0, 4, rfl, hk.lt, fun i x hx => ?_⟩
  match i with
  | 0 => simp at hx; subst hx; exact hk.cell rfl
  | 1 => simp at hx; subst hx; exact hk.cell rfl
  | 2 => simp at hx; subst hx; exact hk.cell rfl
  | 3 => simp at hx; subst hx; exact hk.cell rfl
  | i + 4 => simp at hx
set_option maxRecDepth 100000 in
set_option maxHeartbeats 2000000 in
theorem lives2_calls (w : World) (hT : Tab w) : Calls Tryd.prog 11 #[] w fun e w' => e = .returned (.bool true) ∧ Below w.heap.size w w' := by
  go_enter Tryd.func11, Tryd.ntmps11
  go_wp2_with fail
  refine (small2_calls _).mono ?_
  rintro e w1 ⟨b1, c1, rfl, hM1⟩
  have hB1 := hM1.below
  have hT1 := hT.step hB1
  go_wp2_with fail
  refine (oSort_calls b1 c1 smR w1 hM1.rel hT1).mono ?_
  rintro e w2 ⟨v2, code2, rfl, ⟨hS2, _⟩, hB2⟩
  obtain ⟨rfl, ho2⟩ := hS2 (by rw [sort_sm]; rfl)
  rw [sort_sm] at ho2
  have hI2 : IntsR w2 v2 [2, 0, 3, 1] := owns_intsR (base := w1.heap.size) ho2
  have hBw2 : Below w.heap.size w w2 := below_step hB1 hB1.size hB2
  clear hS2 ho2 hM1 hB1 hT1 hB2
  go_wp2_with fail
  refine (round2_calls _).mono ?_
  rintro e w3 ⟨b3, c3, rfl, hM3⟩
  have hBw3 : Below w.heap.size w w3 := below_step hBw2 hBw2.size hM3.below
  have hI3 := hI2.below hM3.below
  go_wp2_with fail
  refine (oSort_calls b3 c3 rdR w3 hM3.rel (hT.step hBw3)).mono ?_
  rintro e w4 ⟨v4, code4, rfl, ⟨_, hS4⟩, hB4⟩
  obtain ⟨rfl, rfl⟩ := hS4 sort_rd
  have hBw4 : Below w.heap.size w w4 := below_step hBw3 hBw3.size hB4
  have hI4 := hI3.below hB4
  clear hS4 hM3 hI2 hI3 hBw2 hBw3 hB4
  go_wp2_with fail
  refine (small2_calls _).mono ?_
  rintro e w5 ⟨b5, c5, rfl, hM5⟩
  have hBw5 : Below w.heap.size w w5 := below_step hBw4 hBw4.size hM5.below
  have hI5 := hI4.below hM5.below
  have hr5 := hM5.rel
  clear hM5 hI4 hBw4
  have hbA := (Below.refl w5.heap.size w5).alloc (Nat.le_refl _) (.cells #[.int .i64 2, .int .i64 3] 37)
  have hPA : PairsAt (w5.alloc (.cells #[.int .i64 2, .int .i64 3] 37)) w5.heap.size 0 [(2, 3)] := by
    have hk := Blk.new w5 37 #[.int .i64 2, .int .i64 3]
    refine ⟨by simp, ?_, ?_⟩
    all_goals
      intro i x hx
      match i with
      | 0 => simp at hx; subst hx; exact hk.cell rfl
      | i + 1 => simp at hx
  have hBA : Below w.heap.size w (w5.alloc (.cells #[.int .i64 2, .int .i64 3] 37)) := below_step hBw5 hBw5.size hbA
  have hG := oGlue_calls b5 c5 smR (.slice (some ⟨w5.heap.size, 0, none⟩) 1 1) [(2, 3)] _ (hr5.below hbA) (hT.step hBA) ⟨_, _, rfl, fun _ => ⟨_, _, rfl, hPA⟩⟩ (by decide)
  rw [glue_sm] at hG
  have HG := hid_of hG
  clear hG hPA
  go_wp2_with fail
  refine HG.out.mono ?_
  rintro e w6 ⟨⟨v6, rfl, ho6, _⟩, hB6⟩
  have hI6m : IntsR w6 v6 [2, 3, 0, 1] := owns_intsR (ho6 rfl)
  have hI6 := (hI5.below hbA).below hB6
  have hBw6 : Below w.heap.size w w6 := below_step hBA hBA.size hB6
  clear ho6 HG hI5 hbA hBA hB6 hr5 hBw5
  go_wp2_with fail
  refine (ints2_calls v2 _ _ _ _ (hI6.below ((Below.refl _ _).alloc (Nat.le_refl _) _)) (four_ints w6 2 0 3 1) (by decide)).mono ?_
  rintro e w7 ⟨rfl, hB7⟩
  have hbA6 := (Below.refl w6.heap.size w6).alloc (Nat.le_refl _) (.cells #[.int .i64 2, .int .i64 0, .int .i64 3, .int .i64 1] 3)
  have hBw7 : Below w.heap.size w w7 := below_step (below_step hBw6 hBw6.size hbA6) (by have := hBw6.size; simp; omega) hB7
  have hI7 := (hI6.below hbA6).below hB7
  have hJ7 := (hI6m.below hbA6).below hB7
  clear hI6 hI6m hbA6 hB7 hBw6
  rw [show (([2, 0, 3, 1] : List Int) == [2, 0, 3, 1]) = true from by decide]
  go_wp2_with fail
  refine (ints2_calls v6 _ _ _ _ (hJ7.below ((Below.refl _ _).alloc (Nat.le_refl _) _)) (four_ints w7 2 3 0 1) (by decide)).mono ?_
  rintro e w8 ⟨rfl, hB8⟩
  have hbA7 := (Below.refl w7.heap.size w7).alloc (Nat.le_refl _) (.cells #[.int .i64 2, .int .i64 3, .int .i64 0, .int .i64 1] 3)
  have hBw8 : Below w.heap.size w w8 := below_step (below_step hBw7 hBw7.size hbA7) (by have := hBw7.size; simp; omega) hB8
  have hI8 := (hI7.below hbA7).below hB8
  clear hI7 hJ7 hbA7 hB8 hBw7
  rw [show (([2, 3, 0, 1] : List Int) == [2, 3, 0, 1]) = true from by decide]
  go_wp2_with fail
  refine (small2_calls _).mono ?_
  rintro e w9 ⟨b9, c9, rfl, hM9⟩
  have hBw9 : Below w.heap.size w w9 := below_step hBw8 hBw8.size hM9.below
  have hl9 := oLinear_calls b9 c9 smR v2 _ w9 hM9.rel (hT.step hBw9) (hI8.below hM9.below)
  rw [lin_sm.1] at hl9
  go_wp2_with fail
  refine hl9.mono ?_
  rintro e wa ⟨rfl, hBa⟩
  have hBwa : Below w.heap.size w wa := below_step hBw9 hBw9.size hBa
  clear hl9 hM9 hI8 hBw8 hBw9 hBa
  go_wp2_with fail
  refine (small2_calls _).mono ?_
  rintro e wb ⟨bb, cb, rfl, hMb⟩
  have hBwb : Below w.heap.size w wb := below_step hBwa hBwa.size hMb.below
  have hbAb := (Below.refl wb.heap.size wb).alloc (Nat.le_refl _) (.cells #[.int .i64 0, .int .i64 1, .int .i64 2, .int .i64 3] 3)
  have hBwc : Below w.heap.size w (wb.alloc (.cells #[.int .i64 0, .int .i64 1, .int .i64 2, .int .i64 3] 3)) := below_step hBwb hBwb.size hbAb
  have hlb := oLinear_calls bb cb smR _ _ _ (hMb.rel.below hbAb) (hT.step hBwc) (four_ints wb 0 1 2 3)
  rw [lin_sm.2] at hlb
  clear hMb hbAb
  go_wp2_with fail
  refine hlb.mono ?_
  rintro e wd ⟨rfl, hBd⟩
  go_wp2_with fail
  go_ret
  exact ⟨rfl, below_step hBwc hBwc.size hBd⟩
end Go.Proofs.YteejkhgccaagiaaDoor
