/- The statement LexKnown, walked. -/
import Derived.Test.YtmkphocniimhjaaDoorLxKinds
namespace Go.Proofs.YtmkphocniimhjaaDoor
open Go.RowKit Go.Shelf

set_option maxRecDepth 100000
theorem rf_0 : lexA ⟨#[49, 50, 97]⟩ = .error ⟨20, 1, 3⟩ := by kernel_rfl
theorem rf_1 : lexA ⟨#[48, 120]⟩ = .error ⟨20, 1, 3⟩ := by kernel_rfl
theorem rf_2 : lexA ⟨#[48, 120, 103]⟩ = .error ⟨20, 1, 3⟩ := by kernel_rfl
theorem rf_3 : lexA ⟨#[49, 56, 52, 52, 54, 55, 52, 52, 48, 55, 51, 55, 48, 57, 53, 53, 49, 54, 49, 54]⟩ = .error ⟨20, 1, 1⟩ := by kernel_rfl
theorem rf_4 : lexA ⟨#[255]⟩ = .error ⟨20, 1, 1⟩ := by kernel_rfl
theorem rf_5 : lexA ⟨#[195, 169]⟩ = .error ⟨20, 1, 1⟩ := by kernel_rfl
theorem rf_6 : lexA ⟨#[206, 177, 206]⟩ = .error ⟨20, 1, 2⟩ := by kernel_rfl
theorem kd_0 : lexA ⟨#[97, 60, 60, 61, 98, 32, 47, 47, 32, 120, 10]⟩ = .ok [⟨1, ⟨#[97]⟩, 0, 1, 1⟩, ⟨4, ⟨#[60, 60]⟩, 0, 1, 2⟩, ⟨4, ⟨#[61]⟩, 0, 1, 4⟩, ⟨1, ⟨#[98]⟩, 0, 1, 5⟩, ⟨5, ⟨#[]⟩, 0, 2, 1⟩] := by kernel_rfl
theorem kd_1 : lexA ⟨#[]⟩ = .ok [⟨5, ⟨#[]⟩, 0, 1, 1⟩] := by kernel_rfl
theorem kd_2 : lexA ⟨#[95, 32, 115, 99, 120, 32, 115, 99]⟩ = .ok [⟨1, ⟨#[95]⟩, 0, 1, 1⟩, ⟨1, ⟨#[115, 99, 120]⟩, 0, 1, 3⟩, ⟨3, ⟨#[115, 99]⟩, 0, 1, 7⟩, ⟨5, ⟨#[]⟩, 0, 1, 9⟩] := by kernel_rfl
theorem lex_3 : lexA ⟨#[49, 56, 52, 52, 54, 55, 52, 52, 48, 55, 51, 55, 48, 57, 53, 53, 49, 54, 49, 53, 32, 48, 48, 55, 32, 48, 120, 48, 48, 48, 48, 48, 48, 48, 48, 48, 48, 48, 48, 48, 48, 48, 48, 48, 48, 48, 49]⟩ = .ok [⟨2, ⟨#[49, 56, 52, 52, 54, 55, 52, 52, 48, 55, 51, 55, 48, 57, 53, 53, 49, 54, 49, 53]⟩, 18446744073709551615, 1, 1⟩, ⟨2, ⟨#[48, 48, 55]⟩, 7, 1, 22⟩, ⟨2, ⟨#[48, 120, 48, 48, 48, 48, 48, 48, 48, 48, 48, 48, 48, 48, 48, 48, 48, 48, 48, 48, 48, 49]⟩, 1, 1, 26⟩, ⟨5, ⟨#[]⟩, 0, 1, 48⟩] := by kernel_rfl
theorem want_new (w : World) (ks : List Nat) (C : Array Value) (hC : ∀ (i x : Nat), ks[i]? = some x → C[i]? = some (Value.int .i64 ((x : Nat) : Int))) : WantAt (w.alloc (.cells C 3)) w.heap.size ks :=
  ⟨by simp, fun i x hx => (Blk.new w 3 C).cell (hC i x hx)⟩
theorem kk_0 (w : World) (hT : Tabs w) : Calls Tryd.prog 10 #[.string ⟨#[97, 60, 60, 61, 98, 32, 47, 47, 32, 120, 10]⟩, .slice (some ⟨w.heap.size, 0, none⟩) 5 5] (w.alloc (.cells #[.int .i64 1, .int .i64 4, .int .i64 4, .int .i64 1, .int .i64 5] 3)) fun e w' => e = .returned (.bool true) ∧ Below w.heap.size w w' := by
  have hB := (Below.refl w.heap.size w).alloc (Nat.le_refl _) (.cells #[.int .i64 1, .int .i64 4, .int .i64 4, .int .i64 1, .int .i64 5] 3)
  refine (kinds_yes ⟨#[97, 60, 60, 61, 98, 32, 47, 47, 32, 120, 10]⟩ w.heap.size 5 [1, 4, 4, 1, 5] _ (w.alloc (.cells #[.int .i64 1, .int .i64 4, .int .i64 4, .int .i64 1, .int .i64 5] 3)) (hT.below hB) (by decide) (want_new w [1, 4, 4, 1, 5] _ (fun i x hx => ?_)) kd_0 rfl (by decide) (by decide)).mono ?_
  · match i, hx with
    | 0, hx => simp at hx; subst hx; rfl
    | 1, hx => simp at hx; subst hx; rfl
    | 2, hx => simp at hx; subst hx; rfl
    | 3, hx => simp at hx; subst hx; rfl
    | 4, hx => simp at hx; subst hx; rfl
    | i + 5, hx => simp at hx
  · rintro e w' ⟨rfl, hb⟩
    exact ⟨rfl, below_step hB hB.size hb⟩
theorem kk_1 (w : World) (hT : Tabs w) : Calls Tryd.prog 10 #[.string ⟨#[]⟩, .slice (some ⟨w.heap.size, 0, none⟩) 1 1] (w.alloc (.cells #[.int .i64 5] 3)) fun e w' => e = .returned (.bool true) ∧ Below w.heap.size w w' := by
  have hB := (Below.refl w.heap.size w).alloc (Nat.le_refl _) (.cells #[.int .i64 5] 3)
  refine (kinds_yes ⟨#[]⟩ w.heap.size 1 [5] _ (w.alloc (.cells #[.int .i64 5] 3)) (hT.below hB) (by decide) (want_new w [5] _ (fun i x hx => ?_)) kd_1 rfl (by decide) (by decide)).mono ?_
  · match i, hx with
    | 0, hx => simp at hx; subst hx; rfl
    | i + 1, hx => simp at hx
  · rintro e w' ⟨rfl, hb⟩
    exact ⟨rfl, below_step hB hB.size hb⟩
theorem kk_2 (w : World) (hT : Tabs w) : Calls Tryd.prog 10 #[.string ⟨#[95, 32, 115, 99, 120, 32, 115, 99]⟩, .slice (some ⟨w.heap.size, 0, none⟩) 4 4] (w.alloc (.cells #[.int .i64 1, .int .i64 1, .int .i64 3, .int .i64 5] 3)) fun e w' => e = .returned (.bool true) ∧ Below w.heap.size w w' := by
  have hB := (Below.refl w.heap.size w).alloc (Nat.le_refl _) (.cells #[.int .i64 1, .int .i64 1, .int .i64 3, .int .i64 5] 3)
  refine (kinds_yes ⟨#[95, 32, 115, 99, 120, 32, 115, 99]⟩ w.heap.size 4 [1, 1, 3, 5] _ (w.alloc (.cells #[.int .i64 1, .int .i64 1, .int .i64 3, .int .i64 5] 3)) (hT.below hB) (by decide) (want_new w [1, 1, 3, 5] _ (fun i x hx => ?_)) kd_2 rfl (by decide) (by decide)).mono ?_
  · match i, hx with
    | 0, hx => simp at hx; subst hx; rfl
    | 1, hx => simp at hx; subst hx; rfl
    | 2, hx => simp at hx; subst hx; rfl
    | 3, hx => simp at hx; subst hx; rfl
    | i + 4, hx => simp at hx
  · rintro e w' ⟨rfl, hb⟩
    exact ⟨rfl, below_step hB hB.size hb⟩
set_option maxHeartbeats 8000000 in
theorem LexKnown_calls (w : World) (hT : Tabs w) : Calls Tryd.prog 3 #[] w fun e w' => e = .returned (.bool true) ∧ Below w.heap.size w w' := by
  go_enter Tryd.func3, Tryd.ntmps3
  go_wp2_with fail
  refine (awake_calls w hT).mono ?_
  rintro e w0 ⟨rfl, hW0⟩
  go_wp2_with fail
  refine (kk_0 w0 (hT.below hW0)).mono ?_
  rintro e w1 ⟨rfl, hbw1⟩
  have hW1 : Below w.heap.size w w1 := below_step hW0 hW0.size hbw1
  clear hbw1 hW0
  go_wp2_with fail
  refine (kk_1 w1 (hT.below hW1)).mono ?_
  rintro e w2 ⟨rfl, hbw2⟩
  have hW2 : Below w.heap.size w w2 := below_step hW1 hW1.size hbw2
  clear hbw2 hW1
  go_wp2_with fail
  refine (kk_2 w2 (hT.below hW2)).mono ?_
  rintro e w3 ⟨rfl, hbw3⟩
  have hW3 : Below w.heap.size w w3 := below_step hW2 hW2.size hbw3
  clear hbw3 hW2
  go_wp2_with fail
  refine (refused_yes ⟨#[49, 50, 97]⟩ 1 3 w3 (hT.below hW3) (by decide) rf_0).mono ?_
  rintro e w4 ⟨rfl, hbw4⟩
  have hW4 : Below w.heap.size w w4 := below_step hW3 hW3.size hbw4
  clear hbw4 hW3
  go_wp2_with fail
  refine (refused_yes ⟨#[48, 120]⟩ 1 3 w4 (hT.below hW4) (by decide) rf_1).mono ?_
  rintro e w5 ⟨rfl, hbw5⟩
  have hW5 : Below w.heap.size w w5 := below_step hW4 hW4.size hbw5
  clear hbw5 hW4
  go_wp2_with fail
  refine (refused_yes ⟨#[48, 120, 103]⟩ 1 3 w5 (hT.below hW5) (by decide) rf_2).mono ?_
  rintro e w6 ⟨rfl, hbw6⟩
  have hW6 : Below w.heap.size w w6 := below_step hW5 hW5.size hbw6
  clear hbw6 hW5
  go_wp2_with fail
  refine (refused_yes ⟨#[49, 56, 52, 52, 54, 55, 52, 52, 48, 55, 51, 55, 48, 57, 53, 53, 49, 54, 49, 54]⟩ 1 1 w6 (hT.below hW6) (by decide) rf_3).mono ?_
  rintro e w7 ⟨rfl, hbw7⟩
  have hW7 : Below w.heap.size w w7 := below_step hW6 hW6.size hbw7
  clear hbw7 hW6
  go_wp2_with fail
  refine (refused_yes ⟨#[255]⟩ 1 1 w7 (hT.below hW7) (by decide) rf_4).mono ?_
  rintro e w8 ⟨rfl, hbw8⟩
  have hW8 : Below w.heap.size w w8 := below_step hW7 hW7.size hbw8
  clear hbw8 hW7
  go_wp2_with fail
  refine (refused_yes ⟨#[195, 169]⟩ 1 1 w8 (hT.below hW8) (by decide) rf_5).mono ?_
  rintro e w9 ⟨rfl, hbw9⟩
  have hW9 : Below w.heap.size w w9 := below_step hW8 hW8.size hbw9
  clear hbw9 hW8
  go_wp2_with fail
  refine (refused_yes ⟨#[206, 177, 206]⟩ 1 2 w9 (hT.below hW9) (by decide) rf_6).mono ?_
  rintro e w10 ⟨rfl, hbw10⟩
  have hW10 : Below w.heap.size w w10 := below_step hW9 hW9.size hbw10
  clear hbw10 hW9
  have hb1 : BytesR (w10.alloc (.cells #[.int .u8 49, .int .u8 56, .int .u8 52, .int .u8 52, .int .u8 54, .int .u8 55, .int .u8 52, .int .u8 52, .int .u8 48, .int .u8 55, .int .u8 51, .int .u8 55, .int .u8 48, .int .u8 57, .int .u8 53, .int .u8 53, .int .u8 49, .int .u8 54, .int .u8 49, .int .u8 53, .int .u8 32, .int .u8 48, .int .u8 48, .int .u8 55, .int .u8 32, .int .u8 48, .int .u8 120, .int .u8 48, .int .u8 48, .int .u8 48, .int .u8 48, .int .u8 48, .int .u8 48, .int .u8 48, .int .u8 48, .int .u8 48, .int .u8 48, .int .u8 48, .int .u8 48, .int .u8 48, .int .u8 48, .int .u8 48, .int .u8 48, .int .u8 48, .int .u8 48, .int .u8 48, .int .u8 49] 5 (47, 48))) (.slice (some ⟨w10.heap.size, 0, none⟩) 47 47) ⟨#[49, 56, 52, 52, 54, 55, 52, 52, 48, 55, 51, 55, 48, 57, 53, 53, 49, 54, 49, 53, 32, 48, 48, 55, 32, 48, 120, 48, 48, 48, 48, 48, 48, 48, 48, 48, 48, 48, 48, 48, 48, 48, 48, 48, 48, 48, 49]⟩ := bytes_new w10 [49, 56, 52, 52, 54, 55, 52, 52, 48, 55, 51, 55, 48, 57, 53, 53, 49, 54, 49, 53, 32, 48, 48, 55, 32, 48, 120, 48, 48, 48, 48, 48, 48, 48, 48, 48, 48, 48, 48, 48, 48, 48, 48, 48, 48, 48, 49] (47, 48) 47
  have hB1 := (Below.refl w10.heap.size w10).alloc (Nat.le_refl _) (.cells #[.int .u8 49, .int .u8 56, .int .u8 52, .int .u8 52, .int .u8 54, .int .u8 55, .int .u8 52, .int .u8 52, .int .u8 48, .int .u8 55, .int .u8 51, .int .u8 55, .int .u8 48, .int .u8 57, .int .u8 53, .int .u8 53, .int .u8 49, .int .u8 54, .int .u8 49, .int .u8 53, .int .u8 32, .int .u8 48, .int .u8 48, .int .u8 55, .int .u8 32, .int .u8 48, .int .u8 120, .int .u8 48, .int .u8 48, .int .u8 48, .int .u8 48, .int .u8 48, .int .u8 48, .int .u8 48, .int .u8 48, .int .u8 48, .int .u8 48, .int .u8 48, .int .u8 48, .int .u8 48, .int .u8 48, .int .u8 48, .int .u8 48, .int .u8 48, .int .u8 48, .int .u8 48, .int .u8 49] 5 (47, 48))
  have hX1 := below_step hW10 hW10.size hB1
  have hL1 := Lex_calls _ _ _ hb1 (hT.below hX1) (by decide)
  rw [lex_3] at hL1
  have HL1 := hid_of hL1
  clear hL1 hb1
  have hcs := conv_mark w10
  go_wp2_with fail
  refine HL1.out.mono ?_
  rintro e wz ⟨⟨v, rfl, hown⟩, hBx⟩
  have hWz : Below w.heap.size w wz := below_step hX1 hX1.size hBx
  obtain ⟨g, cap, rfl⟩ := tok_form hown (by decide)
  have hown' := ownsT_below hown ((Below.refl wz.heap.size wz).alloc (Nat.le_refl _) (.cells #[.int .i64 0, .int .i64 0, .int .i64 0] 29))
  have k2 := tok_at hown' 2 (by decide) (v := .int .u64 18446744073709551615) rfl
  have k7 := tok_at hown' 7 (by decide) (v := .int .u64 7) rfl
  have k12 := tok_at hown' 12 (by decide) (v := .int .u64 1) rfl
  simp only [fltC, noFlt, fltA, List.length_cons, List.length_nil]
  clear HL1 hcs
  go_wp2_with fail
  go_ret
  exact ⟨rfl, hWz.alloc hWz.size _⟩
end Go.Proofs.YtmkphocniimhjaaDoor
