/- The contract of the statement RelKnown's program: it answers true. -/
import Derived.Test.YtpflelkdkpabbaaDoorKnownMem
import Derived.Deep.DeepCutAuto
namespace Go.Proofs.YtpflelkdkpabbaaDoor
open Go.RowKit Go.Shelf Sx

set_option maxRecDepth 100000 in
set_option maxHeartbeats 20000000 in
theorem RelKnown_calls (w : World) (hT : Tab w) : Calls Tryd.prog 3 #[] w fun e w' => e = .returned (.bool true) ∧ Below w.heap.size w w' := by
  go_enter Tryd.func3, Tryd.ntmps3
  have hK := KN.nil hT
  go_wp2_with fail
  refine (example_calls _).mono ?_
  rintro e w1 ⟨b1, c1, rfl, hM⟩
  have hc1 := hM.hc
  replace hK := hK.add hM
  clear hM
  go_wp2_with fail
  refine (lives_calls _ hK.tab).mono ?_
  rintro e w2 ⟨rfl, hB⟩
  replace hK := hK.step hB
  clear hB
  go_wp2_with fail
  refine (PairsT [(0, 1), (1, 2), (2, 0), (2, 3)] b1 c1 (exR) _ (hK.rel (b1, c1, exR) (by simp)) hK.tab k_ex).mono ?_
  rintro e w3 ⟨v1, rfl, hP, hB⟩
  replace hK := hK.step hB
  clear hB
  go_wp2_with fail
  refine (pairsT v1 (.slice (some ⟨w3.heap.size, 0, none⟩) 4 4) [(0, 1), (1, 2), (2, 0), (2, 3)] _ (hP.below (below_new _ _)) (prs4 w3 0 1 1 2 2 0 2 3) (by decide)).mono ?_
  clear hP
  rintro e w4 ⟨rfl, hB⟩
  replace hK := (hK.alloc _).step hB
  clear hB
  go_wp2_with fail
  refine (PutT false exR b1 c1 exR 0 1 true _ hK.one k_put1 k_put1').mono ?_
  rintro e w5 ⟨rfl, hr, ht⟩
  replace hK := hK.put hc1 hr ht hT.pos
  clear hr ht
  go_wp2_with fail
  refine (PutT false exR b1 c1 exR 3 4 true _ hK.one k_put2 k_put2').mono ?_
  rintro e w6 ⟨rfl, hr, ht⟩
  replace hK := hK.put hc1 hr ht hT.pos
  clear hr ht
  go_wp2_with fail
  refine (PutT true exP b1 c1 exR 3 3 true _ hK.one k_put3 k_put3').mono ?_
  rintro e w7 ⟨rfl, hr, ht⟩
  replace hK := hK.put hc1 hr ht hT.pos
  clear hr ht
  go_wp2_with fail
  refine (PutT true exR b1 c1 exP 3 3 false _ hK.one k_put4 k_put4').mono ?_
  rintro e w8 ⟨rfl, hr, ht⟩
  replace hK := hK.put hc1 hr ht hT.pos
  clear hr ht
  clear hc1
  go_wp2_with fail
  refine (NewT 3 3 _ rfl).mono ?_
  rintro e w9 ⟨b2, c2, rfl, hM⟩
  replace hK := hK.add hM
  clear hM
  go_wp2_with fail
  refine (Star_calls b2 c2 _ _ hK.one).mono ?_
  rintro e w10 ⟨b3, c3, rfl, hM⟩
  replace hK := hK.add hM
  clear hM
  go_wp2_with fail
  refine (Opt_calls b1 c1 exR _ (hK.rel (b1, c1, exR) (by simp))).mono ?_
  rintro e w11 ⟨b4, c4, rfl, hM⟩
  replace hK := hK.add hM
  clear hM
  go_wp2_with fail
  refine (Comp_calls b1 c1 b1 c1 exR exR _ (hK.rel (b1, c1, exR) (by simp)) (hK.rel (b1, c1, exR) (by simp)) hK.tab).mono ?_
  rintro e w12 ⟨b5, c5, rfl, hM⟩
  replace hK := hK.add hM
  clear hM
  go_wp2_with fail
  refine (Inverse_calls b1 c1 exR _ (hK.rel (b1, c1, exR) (by simp)) hK.tab).mono ?_
  rintro e w13 ⟨b6, c6, rfl, hM⟩
  replace hK := hK.add hM
  clear hM
  go_wp2_with fail
  have hs1 := ((bools3 w13 true false true).below (below_new _ (.cells #[.bool false, .bool true, .bool true, .bool true] 4))).set3
  have hs2 := (bools4 (w13.alloc (.cells #[.bool true, .bool false, .bool true] 4)) false true true true).set4
  rw [World.size_alloc] at hs2
  refine (Cut_calls b1 c1 exR (.slice (some ⟨w13.heap.size, 0, none⟩) 3 3) (.slice (some ⟨w13.heap.size + 1, 0, none⟩) 4 4) cA cB _ (((hK.alloc _).alloc _).rel (b1, c1, exR) (by simp)) hs1 hs2 ((hK.alloc _).alloc _).tab).mono ?_
  clear hs1 hs2
  rintro e w14 ⟨b7, c7, rfl, hM⟩
  replace hK := ((hK.alloc _).alloc _).add hM
  clear hM
  go_wp2_with fail
  refine (PairsT [(0, 0), (1, 1), (2, 2)] b3 c3 (optL (plusL (List.replicate 3 0))) _ (hK.rel (b3, c3, optL (plusL (List.replicate 3 0))) (by simp)) hK.tab k_star).mono ?_
  rintro e w15 ⟨v2, rfl, hP, hB⟩
  replace hK := hK.step hB
  clear hB
  go_wp2_with fail
  refine (pairsT v2 (.slice (some ⟨w15.heap.size, 0, none⟩) 3 3) [(0, 0), (1, 1), (2, 2)] _ (hP.below (below_new _ _)) (prs3 w15 0 0 1 1 2 2) (by decide)).mono ?_
  clear hP
  rintro e w16 ⟨rfl, hB⟩
  replace hK := (hK.alloc _).step hB
  clear hB
  go_wp2_with fail
  refine (SizeT 8 b4 c4 (optL exR) _ (hK.rel (b4, c4, optL exR) (by simp)) k_opt).mono ?_
  rintro e w17 ⟨rfl, hB⟩
  replace hK := hK.step hB
  clear hB
  go_wp2_with fail
  refine (PairsT [(0, 2), (1, 0), (1, 3), (2, 1)] b5 c5 (compL exR exR) _ (hK.rel (b5, c5, compL exR exR) (by simp)) hK.tab k_comp).mono ?_
  rintro e w18 ⟨v3, rfl, hP, hB⟩
  replace hK := hK.step hB
  clear hB
  go_wp2_with fail
  refine (pairsT v3 (.slice (some ⟨w18.heap.size, 0, none⟩) 4 4) [(0, 2), (1, 0), (1, 3), (2, 1)] _ (hP.below (below_new _ _)) (prs4 w18 0 2 1 0 1 3 2 1) (by decide)).mono ?_
  clear hP
  rintro e w19 ⟨rfl, hB⟩
  replace hK := (hK.alloc _).step hB
  clear hB
  go_wp2_with fail
  refine (PairsT [(0, 2), (1, 0), (2, 1), (3, 2)] b6 c6 (invL exR) _ (hK.rel (b6, c6, invL exR) (by simp)) hK.tab k_inv).mono ?_
  rintro e w20 ⟨v4, rfl, hP, hB⟩
  replace hK := hK.step hB
  clear hB
  go_wp2_with fail
  refine (pairsT v4 (.slice (some ⟨w20.heap.size, 0, none⟩) 4 4) [(0, 2), (1, 0), (2, 1), (3, 2)] _ (hP.below (below_new _ _)) (prs4 w20 0 2 1 0 2 1 3 2) (by decide)).mono ?_
  clear hP
  rintro e w21 ⟨rfl, hB⟩
  replace hK := (hK.alloc _).step hB
  clear hB
  go_wp2_with fail
  refine (PairsT [(0, 1), (2, 3)] b7 c7 (cutL exR cA cB) _ (hK.rel (b7, c7, cutL exR cA cB) (by simp)) hK.tab k_cut).mono ?_
  rintro e w22 ⟨v5, rfl, hP, hB⟩
  replace hK := hK.step hB
  clear hB
  go_wp2_with fail
  refine (pairsT v5 (.slice (some ⟨w22.heap.size, 0, none⟩) 2 2) [(0, 1), (2, 3)] _ (hP.below (below_new _ _)) (prs2 w22 0 1 2 3) (by decide)).mono ?_
  clear hP
  rintro e w23 ⟨rfl, hB⟩
  replace hK := (hK.alloc _).step hB
  clear hB
  replace hK := hK.few (rs' := [(b1, c1, exR)]) (by simp)
  go_upto_region 15 with fail
  go_cut [133] from 121 to 133 (fun t wx => t = .bool false ∧ KN w [(b1, c1, exR)] wx)
  case first =>
    generalize hA : Act.mk _ _ = a0
    have hsz : a0.tmps.size = 222 := by rw [← hA]; rfl
    have h1 : Act.eval a0 (.tmp 1) = pv b1 := by rw [← hA]; rfl
    refine wp_region_held_drew (S := fun _ => True) (by kernel_rfl) trivial (fun _ => ?_)
    replace hK := hK.drew
    generalize World.drew _ = W0 at *
    refine any_take (i := 0) (d := some 121) (v := pv b1) rfl rfl (by kernel_rfl) (by kernel_rfl) (by kernel_rfl) (fun _ _ _ h => h) (by rfl) ?_ ?_
    · intro w9
      have e1 := h1
      have ec : ∀ v, Act.eval a0 (.const v) = v := fun _ => rfl
      have ef : ∀ f, Act.eval a0 (.func f) = .func (.func f) #[] #[] := fun _ => rfl
      generalize Act.eval a0 = ρ at *
      simp only [List.getElem_toArray, List.getElem_cons_zero]
      go_simp
    refine wpAnyH_ready (rs := [1, 3]) (by kernel_rfl) (by simp) ?_
    refine any_value (i := 1) (d := some 122) (v := .slice (some ⟨W0.heap.size, 0, none⟩) 3 3) (w' := W0.alloc oA) rfl rfl (by rfl) ?_ ?_ ?_
    · skip
      have ec : ∀ v, Act.eval (a0.put (some 121) (pv b1)) (.const v) = v := fun _ => rfl
      have ef : ∀ f, Act.eval (a0.put (some 121) (pv b1)) (.func f) = .func (.func f) #[] #[] := fun _ => rfl
      generalize Act.eval (a0.put (some 121) (pv b1)) = ρ at *
      simp only [List.getElem_toArray, List.getElem_cons_zero, List.getElem_cons_succ]
      go_simp
    · skip
      refine wpAnyH_ready (rs := [2, 3]) (by kernel_rfl) (by simp) ?_
      refine any_enter (i := 2) (d := some 123) (f := 20) (args := #[pv b1, .slice (some ⟨W0.heap.size, 0, none⟩) 3 3]) (w' := W0.alloc oA) rfl rfl (by rfl) ?_ ?_ ?_
      · skip
        have e121 : Act.eval ((a0.put (some 121) (pv b1)).put (some 122) (.slice (some ⟨W0.heap.size, 0, none⟩) 3 3)) (.tmp 121) = pv b1 := by rw [Act.eval_put_ne _ _ _ _ (by decide), Act.eval_put_same _ _ _ (by (repeat rw [Act.size_put]); omega)]
        have e122 : Act.eval ((a0.put (some 121) (pv b1)).put (some 122) (.slice (some ⟨W0.heap.size, 0, none⟩) 3 3)) (.tmp 122) = .slice (some ⟨W0.heap.size, 0, none⟩) 3 3 := by rw [Act.eval_put_same _ _ _ (by (repeat rw [Act.size_put]); omega)]
        have ec : ∀ v, Act.eval ((a0.put (some 121) (pv b1)).put (some 122) (.slice (some ⟨W0.heap.size, 0, none⟩) 3 3)) (.const v) = v := fun _ => rfl
        have ef : ∀ f, Act.eval ((a0.put (some 121) (pv b1)).put (some 122) (.slice (some ⟨W0.heap.size, 0, none⟩) 3 3)) (.func f) = .func (.func f) #[] #[] := fun _ => rfl
        generalize Act.eval ((a0.put (some 121) (pv b1)).put (some 122) (.slice (some ⟨W0.heap.size, 0, none⟩) 3 3)) = ρ at *
        simp only [List.getElem_toArray, List.getElem_cons_zero, List.getElem_cons_succ]
        go_simp
      · refine (img1 W0 hK).mono ?_
        rintro e wA ⟨vA, rfl, hSA, hKA⟩
        refine ⟨vA, rfl, ?_⟩
        refine wpAnyH_ready (rs := [3]) (by kernel_rfl) (by simp) ?_
        refine any_value (i := 3) (d := some 124) (v := .slice (some ⟨wA.heap.size, 0, none⟩) 4 4) (w' := wA.alloc oB) rfl rfl (by rfl) ?_ ?_ AllReadyH.nil
        · skip
          have ec : ∀ v, Act.eval (((a0.put (some 121) (pv b1)).put (some 122) (.slice (some ⟨W0.heap.size, 0, none⟩) 3 3)).put (some 123) (vA)) (.const v) = v := fun _ => rfl
          have ef : ∀ f, Act.eval (((a0.put (some 121) (pv b1)).put (some 122) (.slice (some ⟨W0.heap.size, 0, none⟩) 3 3)).put (some 123) (vA)) (.func f) = .func (.func f) #[] #[] := fun _ => rfl
          generalize Act.eval (((a0.put (some 121) (pv b1)).put (some 122) (.slice (some ⟨W0.heap.size, 0, none⟩) 3 3)).put (some 123) (vA)) = ρ at *
          simp only [List.getElem_toArray, List.getElem_cons_zero, List.getElem_cons_succ]
          go_simp
        refine wpAnyH_ready (rs := [4]) (by kernel_rfl) (by simp) ?_
        refine any_enter (i := 4) (d := some 125) (f := 19) (args := #[vA, .slice (some ⟨wA.heap.size, 0, none⟩) 4 4]) (w' := wA.alloc oB) rfl rfl (by rfl) ?_ ?_ AllReadyH.nil
        · skip
          have e123 : Act.eval ((((a0.put (some 121) (pv b1)).put (some 122) (.slice (some ⟨W0.heap.size, 0, none⟩) 3 3)).put (some 123) (vA)).put (some 124) (.slice (some ⟨wA.heap.size, 0, none⟩) 4 4)) (.tmp 123) = vA := by rw [Act.eval_put_ne _ _ _ _ (by decide), Act.eval_put_same _ _ _ (by (repeat rw [Act.size_put]); omega)]
          have e124 : Act.eval ((((a0.put (some 121) (pv b1)).put (some 122) (.slice (some ⟨W0.heap.size, 0, none⟩) 3 3)).put (some 123) (vA)).put (some 124) (.slice (some ⟨wA.heap.size, 0, none⟩) 4 4)) (.tmp 124) = .slice (some ⟨wA.heap.size, 0, none⟩) 4 4 := by rw [Act.eval_put_same _ _ _ (by (repeat rw [Act.size_put]); omega)]
          have ec : ∀ v, Act.eval ((((a0.put (some 121) (pv b1)).put (some 122) (.slice (some ⟨W0.heap.size, 0, none⟩) 3 3)).put (some 123) (vA)).put (some 124) (.slice (some ⟨wA.heap.size, 0, none⟩) 4 4)) (.const v) = v := fun _ => rfl
          have ef : ∀ f, Act.eval ((((a0.put (some 121) (pv b1)).put (some 122) (.slice (some ⟨W0.heap.size, 0, none⟩) 3 3)).put (some 123) (vA)).put (some 124) (.slice (some ⟨wA.heap.size, 0, none⟩) 4 4)) (.func f) = .func (.func f) #[] #[] := fun _ => rfl
          generalize Act.eval ((((a0.put (some 121) (pv b1)).put (some 122) (.slice (some ⟨W0.heap.size, 0, none⟩) 3 3)).put (some 123) (vA)).put (some 124) (.slice (some ⟨wA.heap.size, 0, none⟩) 4 4)) = ρ at *
          simp only [List.getElem_toArray, List.getElem_cons_zero, List.getElem_cons_succ]
          go_simp
        refine (tru1 wA hSA hKA).mono ?_
        rintro e wB ⟨rfl, hKB⟩
        refine ⟨_, rfl, ?_⟩
        refine any_take (i := 5) (d := some 126) (v := .bool false) rfl rfl (by kernel_rfl) (by kernel_rfl) (by kernel_rfl) (fun _ _ _ h => h) (by rfl) ?_ ?_
        · intro w9
          have e125 : Act.eval (((((a0.put (some 121) (pv b1)).put (some 122) (.slice (some ⟨W0.heap.size, 0, none⟩) 3 3)).put (some 123) (vA)).put (some 124) (.slice (some ⟨wA.heap.size, 0, none⟩) 4 4)).put (some 125) (.bool true)) (.tmp 125) = .bool true := by rw [Act.eval_put_same _ _ _ (by (repeat rw [Act.size_put]); omega)]
          have ec : ∀ v, Act.eval (((((a0.put (some 121) (pv b1)).put (some 122) (.slice (some ⟨W0.heap.size, 0, none⟩) 3 3)).put (some 123) (vA)).put (some 124) (.slice (some ⟨wA.heap.size, 0, none⟩) 4 4)).put (some 125) (.bool true)) (.const v) = v := fun _ => rfl
          have ef : ∀ f, Act.eval (((((a0.put (some 121) (pv b1)).put (some 122) (.slice (some ⟨W0.heap.size, 0, none⟩) 3 3)).put (some 123) (vA)).put (some 124) (.slice (some ⟨wA.heap.size, 0, none⟩) 4 4)).put (some 125) (.bool true)) (.func f) = .func (.func f) #[] #[] := fun _ => rfl
          generalize Act.eval (((((a0.put (some 121) (pv b1)).put (some 122) (.slice (some ⟨W0.heap.size, 0, none⟩) 3 3)).put (some 123) (vA)).put (some 124) (.slice (some ⟨wA.heap.size, 0, none⟩) 4 4)).put (some 125) (.bool true)) = ρ at *
          simp only [List.getElem_toArray, List.getElem_cons_zero, List.getElem_cons_succ]
          go_simp
        refine any_take (i := 6) (d := some 127) (v := .bool false) rfl rfl (by kernel_rfl) (by kernel_rfl) (by kernel_rfl) (fun _ _ _ h => h) (by rfl) ?_ ?_
        · intro w9
          have e126 : Act.eval ((((((a0.put (some 121) (pv b1)).put (some 122) (.slice (some ⟨W0.heap.size, 0, none⟩) 3 3)).put (some 123) (vA)).put (some 124) (.slice (some ⟨wA.heap.size, 0, none⟩) 4 4)).put (some 125) (.bool true)).put (some 126) (.bool false)) (.tmp 126) = .bool false := by rw [Act.eval_put_same _ _ _ (by (repeat rw [Act.size_put]); omega)]
          have ec : ∀ v, Act.eval ((((((a0.put (some 121) (pv b1)).put (some 122) (.slice (some ⟨W0.heap.size, 0, none⟩) 3 3)).put (some 123) (vA)).put (some 124) (.slice (some ⟨wA.heap.size, 0, none⟩) 4 4)).put (some 125) (.bool true)).put (some 126) (.bool false)) (.const v) = v := fun _ => rfl
          have ef : ∀ f, Act.eval ((((((a0.put (some 121) (pv b1)).put (some 122) (.slice (some ⟨W0.heap.size, 0, none⟩) 3 3)).put (some 123) (vA)).put (some 124) (.slice (some ⟨wA.heap.size, 0, none⟩) 4 4)).put (some 125) (.bool true)).put (some 126) (.bool false)) (.func f) = .func (.func f) #[] #[] := fun _ => rfl
          generalize Act.eval ((((((a0.put (some 121) (pv b1)).put (some 122) (.slice (some ⟨W0.heap.size, 0, none⟩) 3 3)).put (some 123) (vA)).put (some 124) (.slice (some ⟨wA.heap.size, 0, none⟩) 4 4)).put (some 125) (.bool true)).put (some 126) (.bool false)) = ρ at *
          simp only [List.getElem_toArray, List.getElem_cons_zero, List.getElem_cons_succ]
          go_simp
        refine any_take (i := 7) (d := some 128) (v := pv b1) rfl rfl (by kernel_rfl) (by kernel_rfl) (by kernel_rfl) (fun _ _ _ h => h) (wanted_guard (j := 6) (d := 127) (want := false) rfl rfl (by rw [tmp_put_same _ _ _ (by (repeat rw [Act.size_put]); omega)])) ?_ ?_
        · intro w9
          have e1 : Act.eval (((((((a0.put (some 121) (pv b1)).put (some 122) (.slice (some ⟨W0.heap.size, 0, none⟩) 3 3)).put (some 123) (vA)).put (some 124) (.slice (some ⟨wA.heap.size, 0, none⟩) 4 4)).put (some 125) (.bool true)).put (some 126) (.bool false)).put (some 127) (.bool false)) (.tmp 1) = pv b1 := by rw [Act.eval_put_ne _ _ _ _ (by decide), Act.eval_put_ne _ _ _ _ (by decide), Act.eval_put_ne _ _ _ _ (by decide), Act.eval_put_ne _ _ _ _ (by decide), Act.eval_put_ne _ _ _ _ (by decide), Act.eval_put_ne _ _ _ _ (by decide), Act.eval_put_ne _ _ _ _ (by decide), h1]
          have ec : ∀ v, Act.eval (((((((a0.put (some 121) (pv b1)).put (some 122) (.slice (some ⟨W0.heap.size, 0, none⟩) 3 3)).put (some 123) (vA)).put (some 124) (.slice (some ⟨wA.heap.size, 0, none⟩) 4 4)).put (some 125) (.bool true)).put (some 126) (.bool false)).put (some 127) (.bool false)) (.const v) = v := fun _ => rfl
          have ef : ∀ f, Act.eval (((((((a0.put (some 121) (pv b1)).put (some 122) (.slice (some ⟨W0.heap.size, 0, none⟩) 3 3)).put (some 123) (vA)).put (some 124) (.slice (some ⟨wA.heap.size, 0, none⟩) 4 4)).put (some 125) (.bool true)).put (some 126) (.bool false)).put (some 127) (.bool false)) (.func f) = .func (.func f) #[] #[] := fun _ => rfl
          generalize Act.eval (((((((a0.put (some 121) (pv b1)).put (some 122) (.slice (some ⟨W0.heap.size, 0, none⟩) 3 3)).put (some 123) (vA)).put (some 124) (.slice (some ⟨wA.heap.size, 0, none⟩) 4 4)).put (some 125) (.bool true)).put (some 126) (.bool false)).put (some 127) (.bool false)) = ρ at *
          simp only [List.getElem_toArray, List.getElem_cons_zero, List.getElem_cons_succ]
          go_simp
        refine wpAnyH_ready (rs := [8, 9]) (by kernel_rfl) (by simp) ?_
        refine any_enter (i := 8) (d := some 129) (f := 20) (args := #[pv b1, .slice none 0 0]) (w' := wB) rfl rfl (wanted_guard (j := 6) (d := 127) (want := false) rfl rfl (by rw [tmp_put_ne _ _ _ _ (by decide), tmp_put_same _ _ _ (by (repeat rw [Act.size_put]); omega)])) ?_ ?_ ?_
        · skip
          have e128 : Act.eval ((((((((a0.put (some 121) (pv b1)).put (some 122) (.slice (some ⟨W0.heap.size, 0, none⟩) 3 3)).put (some 123) (vA)).put (some 124) (.slice (some ⟨wA.heap.size, 0, none⟩) 4 4)).put (some 125) (.bool true)).put (some 126) (.bool false)).put (some 127) (.bool false)).put (some 128) (pv b1)) (.tmp 128) = pv b1 := by rw [Act.eval_put_same _ _ _ (by (repeat rw [Act.size_put]); omega)]
          have ec : ∀ v, Act.eval ((((((((a0.put (some 121) (pv b1)).put (some 122) (.slice (some ⟨W0.heap.size, 0, none⟩) 3 3)).put (some 123) (vA)).put (some 124) (.slice (some ⟨wA.heap.size, 0, none⟩) 4 4)).put (some 125) (.bool true)).put (some 126) (.bool false)).put (some 127) (.bool false)).put (some 128) (pv b1)) (.const v) = v := fun _ => rfl
          have ef : ∀ f, Act.eval ((((((((a0.put (some 121) (pv b1)).put (some 122) (.slice (some ⟨W0.heap.size, 0, none⟩) 3 3)).put (some 123) (vA)).put (some 124) (.slice (some ⟨wA.heap.size, 0, none⟩) 4 4)).put (some 125) (.bool true)).put (some 126) (.bool false)).put (some 127) (.bool false)).put (some 128) (pv b1)) (.func f) = .func (.func f) #[] #[] := fun _ => rfl
          generalize Act.eval ((((((((a0.put (some 121) (pv b1)).put (some 122) (.slice (some ⟨W0.heap.size, 0, none⟩) 3 3)).put (some 123) (vA)).put (some 124) (.slice (some ⟨wA.heap.size, 0, none⟩) 4 4)).put (some 125) (.bool true)).put (some 126) (.bool false)).put (some 127) (.bool false)).put (some 128) (pv b1)) = ρ at *
          simp only [List.getElem_toArray, List.getElem_cons_zero, List.getElem_cons_succ]
          go_simp
        · refine (img4 wB hKB).mono ?_
          rintro e wC ⟨vC, rfl, hSC, hKC⟩
          refine ⟨vC, rfl, ?_⟩
          refine wpAnyH_ready (rs := [9]) (by kernel_rfl) (by simp) ?_
          refine any_value (i := 9) (d := some 130) (v := .slice (some ⟨wC.heap.size, 0, none⟩) 4 4) (w' := wC.alloc oC) rfl rfl (wanted_guard (j := 6) (d := 127) (want := false) rfl rfl (by rw [tmp_put_ne _ _ _ _ (by decide), tmp_put_ne _ _ _ _ (by decide), tmp_put_same _ _ _ (by (repeat rw [Act.size_put]); omega)])) ?_ ?_ AllReadyH.nil
          · skip
            have ec : ∀ v, Act.eval (((((((((a0.put (some 121) (pv b1)).put (some 122) (.slice (some ⟨W0.heap.size, 0, none⟩) 3 3)).put (some 123) (vA)).put (some 124) (.slice (some ⟨wA.heap.size, 0, none⟩) 4 4)).put (some 125) (.bool true)).put (some 126) (.bool false)).put (some 127) (.bool false)).put (some 128) (pv b1)).put (some 129) (vC)) (.const v) = v := fun _ => rfl
            have ef : ∀ f, Act.eval (((((((((a0.put (some 121) (pv b1)).put (some 122) (.slice (some ⟨W0.heap.size, 0, none⟩) 3 3)).put (some 123) (vA)).put (some 124) (.slice (some ⟨wA.heap.size, 0, none⟩) 4 4)).put (some 125) (.bool true)).put (some 126) (.bool false)).put (some 127) (.bool false)).put (some 128) (pv b1)).put (some 129) (vC)) (.func f) = .func (.func f) #[] #[] := fun _ => rfl
            generalize Act.eval (((((((((a0.put (some 121) (pv b1)).put (some 122) (.slice (some ⟨W0.heap.size, 0, none⟩) 3 3)).put (some 123) (vA)).put (some 124) (.slice (some ⟨wA.heap.size, 0, none⟩) 4 4)).put (some 125) (.bool true)).put (some 126) (.bool false)).put (some 127) (.bool false)).put (some 128) (pv b1)).put (some 129) (vC)) = ρ at *
            simp only [List.getElem_toArray, List.getElem_cons_zero, List.getElem_cons_succ]
            have hmk := make4
            go_simp
          refine wpAnyH_ready (rs := [10]) (by kernel_rfl) (by simp) ?_
          refine any_enter (i := 10) (d := some 131) (f := 19) (args := #[vC, .slice (some ⟨wC.heap.size, 0, none⟩) 4 4]) (w' := wC.alloc oC) rfl rfl (wanted_guard (j := 6) (d := 127) (want := false) rfl rfl (by rw [tmp_put_ne _ _ _ _ (by decide), tmp_put_ne _ _ _ _ (by decide), tmp_put_ne _ _ _ _ (by decide), tmp_put_same _ _ _ (by (repeat rw [Act.size_put]); omega)])) ?_ ?_ AllReadyH.nil
          · skip
            have e129 : Act.eval ((((((((((a0.put (some 121) (pv b1)).put (some 122) (.slice (some ⟨W0.heap.size, 0, none⟩) 3 3)).put (some 123) (vA)).put (some 124) (.slice (some ⟨wA.heap.size, 0, none⟩) 4 4)).put (some 125) (.bool true)).put (some 126) (.bool false)).put (some 127) (.bool false)).put (some 128) (pv b1)).put (some 129) (vC)).put (some 130) (.slice (some ⟨wC.heap.size, 0, none⟩) 4 4)) (.tmp 129) = vC := by rw [Act.eval_put_ne _ _ _ _ (by decide), Act.eval_put_same _ _ _ (by (repeat rw [Act.size_put]); omega)]
            have e130 : Act.eval ((((((((((a0.put (some 121) (pv b1)).put (some 122) (.slice (some ⟨W0.heap.size, 0, none⟩) 3 3)).put (some 123) (vA)).put (some 124) (.slice (some ⟨wA.heap.size, 0, none⟩) 4 4)).put (some 125) (.bool true)).put (some 126) (.bool false)).put (some 127) (.bool false)).put (some 128) (pv b1)).put (some 129) (vC)).put (some 130) (.slice (some ⟨wC.heap.size, 0, none⟩) 4 4)) (.tmp 130) = .slice (some ⟨wC.heap.size, 0, none⟩) 4 4 := by rw [Act.eval_put_same _ _ _ (by (repeat rw [Act.size_put]); omega)]
            have ec : ∀ v, Act.eval ((((((((((a0.put (some 121) (pv b1)).put (some 122) (.slice (some ⟨W0.heap.size, 0, none⟩) 3 3)).put (some 123) (vA)).put (some 124) (.slice (some ⟨wA.heap.size, 0, none⟩) 4 4)).put (some 125) (.bool true)).put (some 126) (.bool false)).put (some 127) (.bool false)).put (some 128) (pv b1)).put (some 129) (vC)).put (some 130) (.slice (some ⟨wC.heap.size, 0, none⟩) 4 4)) (.const v) = v := fun _ => rfl
            have ef : ∀ f, Act.eval ((((((((((a0.put (some 121) (pv b1)).put (some 122) (.slice (some ⟨W0.heap.size, 0, none⟩) 3 3)).put (some 123) (vA)).put (some 124) (.slice (some ⟨wA.heap.size, 0, none⟩) 4 4)).put (some 125) (.bool true)).put (some 126) (.bool false)).put (some 127) (.bool false)).put (some 128) (pv b1)).put (some 129) (vC)).put (some 130) (.slice (some ⟨wC.heap.size, 0, none⟩) 4 4)) (.func f) = .func (.func f) #[] #[] := fun _ => rfl
            generalize Act.eval ((((((((((a0.put (some 121) (pv b1)).put (some 122) (.slice (some ⟨W0.heap.size, 0, none⟩) 3 3)).put (some 123) (vA)).put (some 124) (.slice (some ⟨wA.heap.size, 0, none⟩) 4 4)).put (some 125) (.bool true)).put (some 126) (.bool false)).put (some 127) (.bool false)).put (some 128) (pv b1)).put (some 129) (vC)).put (some 130) (.slice (some ⟨wC.heap.size, 0, none⟩) 4 4)) = ρ at *
            simp only [List.getElem_toArray, List.getElem_cons_zero, List.getElem_cons_succ]
            go_simp
          refine (tru3 wC hSC hKC).mono ?_
          rintro e wD ⟨rfl, hKD⟩
          refine ⟨_, rfl, ?_⟩
          refine any_take (i := 11) (d := some 132) (v := .bool false) rfl rfl (by kernel_rfl) (by kernel_rfl) (by kernel_rfl) (fun _ _ _ h => h) (wanted_guard (j := 6) (d := 127) (want := false) rfl rfl (by rw [tmp_put_ne _ _ _ _ (by decide), tmp_put_ne _ _ _ _ (by decide), tmp_put_ne _ _ _ _ (by decide), tmp_put_ne _ _ _ _ (by decide), tmp_put_same _ _ _ (by (repeat rw [Act.size_put]); omega)])) ?_ ?_
          · intro w9
            have e131 : Act.eval (((((((((((a0.put (some 121) (pv b1)).put (some 122) (.slice (some ⟨W0.heap.size, 0, none⟩) 3 3)).put (some 123) (vA)).put (some 124) (.slice (some ⟨wA.heap.size, 0, none⟩) 4 4)).put (some 125) (.bool true)).put (some 126) (.bool false)).put (some 127) (.bool false)).put (some 128) (pv b1)).put (some 129) (vC)).put (some 130) (.slice (some ⟨wC.heap.size, 0, none⟩) 4 4)).put (some 131) (.bool true)) (.tmp 131) = .bool true := by rw [Act.eval_put_same _ _ _ (by (repeat rw [Act.size_put]); omega)]
            have ec : ∀ v, Act.eval (((((((((((a0.put (some 121) (pv b1)).put (some 122) (.slice (some ⟨W0.heap.size, 0, none⟩) 3 3)).put (some 123) (vA)).put (some 124) (.slice (some ⟨wA.heap.size, 0, none⟩) 4 4)).put (some 125) (.bool true)).put (some 126) (.bool false)).put (some 127) (.bool false)).put (some 128) (pv b1)).put (some 129) (vC)).put (some 130) (.slice (some ⟨wC.heap.size, 0, none⟩) 4 4)).put (some 131) (.bool true)) (.const v) = v := fun _ => rfl
            have ef : ∀ f, Act.eval (((((((((((a0.put (some 121) (pv b1)).put (some 122) (.slice (some ⟨W0.heap.size, 0, none⟩) 3 3)).put (some 123) (vA)).put (some 124) (.slice (some ⟨wA.heap.size, 0, none⟩) 4 4)).put (some 125) (.bool true)).put (some 126) (.bool false)).put (some 127) (.bool false)).put (some 128) (pv b1)).put (some 129) (vC)).put (some 130) (.slice (some ⟨wC.heap.size, 0, none⟩) 4 4)).put (some 131) (.bool true)) (.func f) = .func (.func f) #[] #[] := fun _ => rfl
            generalize Act.eval (((((((((((a0.put (some 121) (pv b1)).put (some 122) (.slice (some ⟨W0.heap.size, 0, none⟩) 3 3)).put (some 123) (vA)).put (some 124) (.slice (some ⟨wA.heap.size, 0, none⟩) 4 4)).put (some 125) (.bool true)).put (some 126) (.bool false)).put (some 127) (.bool false)).put (some 128) (pv b1)).put (some 129) (vC)).put (some 130) (.slice (some ⟨wC.heap.size, 0, none⟩) 4 4)).put (some 131) (.bool true)) = ρ at *
            simp only [List.getElem_toArray, List.getElem_cons_zero, List.getElem_cons_succ]
            go_simp
          refine any_take (i := 12) (d := some 133) (v := .bool false) rfl rfl (by kernel_rfl) (by kernel_rfl) (by kernel_rfl) (fun _ _ _ h => h) (by rfl) ?_ ?_
          · intro w9
            have e127 : Act.eval ((((((((((((a0.put (some 121) (pv b1)).put (some 122) (.slice (some ⟨W0.heap.size, 0, none⟩) 3 3)).put (some 123) (vA)).put (some 124) (.slice (some ⟨wA.heap.size, 0, none⟩) 4 4)).put (some 125) (.bool true)).put (some 126) (.bool false)).put (some 127) (.bool false)).put (some 128) (pv b1)).put (some 129) (vC)).put (some 130) (.slice (some ⟨wC.heap.size, 0, none⟩) 4 4)).put (some 131) (.bool true)).put (some 132) (.bool false)) (.tmp 127) = .bool false := by rw [Act.eval_put_ne _ _ _ _ (by decide), Act.eval_put_ne _ _ _ _ (by decide), Act.eval_put_ne _ _ _ _ (by decide), Act.eval_put_ne _ _ _ _ (by decide), Act.eval_put_ne _ _ _ _ (by decide), Act.eval_put_same _ _ _ (by (repeat rw [Act.size_put]); omega)]
            have e132 : Act.eval ((((((((((((a0.put (some 121) (pv b1)).put (some 122) (.slice (some ⟨W0.heap.size, 0, none⟩) 3 3)).put (some 123) (vA)).put (some 124) (.slice (some ⟨wA.heap.size, 0, none⟩) 4 4)).put (some 125) (.bool true)).put (some 126) (.bool false)).put (some 127) (.bool false)).put (some 128) (pv b1)).put (some 129) (vC)).put (some 130) (.slice (some ⟨wC.heap.size, 0, none⟩) 4 4)).put (some 131) (.bool true)).put (some 132) (.bool false)) (.tmp 132) = .bool false := by rw [Act.eval_put_same _ _ _ (by (repeat rw [Act.size_put]); omega)]
            have ec : ∀ v, Act.eval ((((((((((((a0.put (some 121) (pv b1)).put (some 122) (.slice (some ⟨W0.heap.size, 0, none⟩) 3 3)).put (some 123) (vA)).put (some 124) (.slice (some ⟨wA.heap.size, 0, none⟩) 4 4)).put (some 125) (.bool true)).put (some 126) (.bool false)).put (some 127) (.bool false)).put (some 128) (pv b1)).put (some 129) (vC)).put (some 130) (.slice (some ⟨wC.heap.size, 0, none⟩) 4 4)).put (some 131) (.bool true)).put (some 132) (.bool false)) (.const v) = v := fun _ => rfl
            have ef : ∀ f, Act.eval ((((((((((((a0.put (some 121) (pv b1)).put (some 122) (.slice (some ⟨W0.heap.size, 0, none⟩) 3 3)).put (some 123) (vA)).put (some 124) (.slice (some ⟨wA.heap.size, 0, none⟩) 4 4)).put (some 125) (.bool true)).put (some 126) (.bool false)).put (some 127) (.bool false)).put (some 128) (pv b1)).put (some 129) (vC)).put (some 130) (.slice (some ⟨wC.heap.size, 0, none⟩) 4 4)).put (some 131) (.bool true)).put (some 132) (.bool false)) (.func f) = .func (.func f) #[] #[] := fun _ => rfl
            generalize Act.eval ((((((((((((a0.put (some 121) (pv b1)).put (some 122) (.slice (some ⟨W0.heap.size, 0, none⟩) 3 3)).put (some 123) (vA)).put (some 124) (.slice (some ⟨wA.heap.size, 0, none⟩) 4 4)).put (some 125) (.bool true)).put (some 126) (.bool false)).put (some 127) (.bool false)).put (some 128) (pv b1)).put (some 129) (vC)).put (some 130) (.slice (some ⟨wC.heap.size, 0, none⟩) 4 4)).put (some 131) (.bool true)).put (some 132) (.bool false)) = ρ at *
            simp only [List.getElem_toArray, List.getElem_cons_zero, List.getElem_cons_succ]
            go_simp
          refine wpAnyH_done (by kernel_rfl) ?_ _
          subst hA
          simp only [Act.put, List.setIfInBounds_toArray, List.set_cons_zero, List.set_cons_succ]
          go_wp2_with fail
          go_meet
          exact ⟨rfl, hKD⟩
        refine any_value (i := 9) (d := some 130) (v := .slice (some ⟨wB.heap.size, 0, none⟩) 4 4) (w' := wB.alloc oC) rfl rfl (wanted_guard (j := 6) (d := 127) (want := false) rfl rfl (by rw [tmp_put_ne _ _ _ _ (by decide), tmp_put_same _ _ _ (by (repeat rw [Act.size_put]); omega)])) ?_ ?_ AllReadyH.nil
        · skip
          have ec : ∀ v, Act.eval ((((((((a0.put (some 121) (pv b1)).put (some 122) (.slice (some ⟨W0.heap.size, 0, none⟩) 3 3)).put (some 123) (vA)).put (some 124) (.slice (some ⟨wA.heap.size, 0, none⟩) 4 4)).put (some 125) (.bool true)).put (some 126) (.bool false)).put (some 127) (.bool false)).put (some 128) (pv b1)) (.const v) = v := fun _ => rfl
          have ef : ∀ f, Act.eval ((((((((a0.put (some 121) (pv b1)).put (some 122) (.slice (some ⟨W0.heap.size, 0, none⟩) 3 3)).put (some 123) (vA)).put (some 124) (.slice (some ⟨wA.heap.size, 0, none⟩) 4 4)).put (some 125) (.bool true)).put (some 126) (.bool false)).put (some 127) (.bool false)).put (some 128) (pv b1)) (.func f) = .func (.func f) #[] #[] := fun _ => rfl
          generalize Act.eval ((((((((a0.put (some 121) (pv b1)).put (some 122) (.slice (some ⟨W0.heap.size, 0, none⟩) 3 3)).put (some 123) (vA)).put (some 124) (.slice (some ⟨wA.heap.size, 0, none⟩) 4 4)).put (some 125) (.bool true)).put (some 126) (.bool false)).put (some 127) (.bool false)).put (some 128) (pv b1)) = ρ at *
          simp only [List.getElem_toArray, List.getElem_cons_zero, List.getElem_cons_succ]
          have hmk := make4
          go_simp
        refine wpAnyH_ready (rs := [8]) (by kernel_rfl) (by simp) ?_
        refine any_enter (i := 8) (d := some 129) (f := 20) (args := #[pv b1, .slice none 0 0]) (w' := wB.alloc oC) rfl rfl (wanted_guard (j := 6) (d := 127) (want := false) rfl rfl (by rw [tmp_put_ne _ _ _ _ (by decide), tmp_put_ne _ _ _ _ (by decide), tmp_put_same _ _ _ (by (repeat rw [Act.size_put]); omega)])) ?_ ?_ AllReadyH.nil
        · skip
          have e128 : Act.eval (((((((((a0.put (some 121) (pv b1)).put (some 122) (.slice (some ⟨W0.heap.size, 0, none⟩) 3 3)).put (some 123) (vA)).put (some 124) (.slice (some ⟨wA.heap.size, 0, none⟩) 4 4)).put (some 125) (.bool true)).put (some 126) (.bool false)).put (some 127) (.bool false)).put (some 128) (pv b1)).put (some 130) (.slice (some ⟨wB.heap.size, 0, none⟩) 4 4)) (.tmp 128) = pv b1 := by rw [Act.eval_put_ne _ _ _ _ (by decide), Act.eval_put_same _ _ _ (by (repeat rw [Act.size_put]); omega)]
          have ec : ∀ v, Act.eval (((((((((a0.put (some 121) (pv b1)).put (some 122) (.slice (some ⟨W0.heap.size, 0, none⟩) 3 3)).put (some 123) (vA)).put (some 124) (.slice (some ⟨wA.heap.size, 0, none⟩) 4 4)).put (some 125) (.bool true)).put (some 126) (.bool false)).put (some 127) (.bool false)).put (some 128) (pv b1)).put (some 130) (.slice (some ⟨wB.heap.size, 0, none⟩) 4 4)) (.const v) = v := fun _ => rfl
          have ef : ∀ f, Act.eval (((((((((a0.put (some 121) (pv b1)).put (some 122) (.slice (some ⟨W0.heap.size, 0, none⟩) 3 3)).put (some 123) (vA)).put (some 124) (.slice (some ⟨wA.heap.size, 0, none⟩) 4 4)).put (some 125) (.bool true)).put (some 126) (.bool false)).put (some 127) (.bool false)).put (some 128) (pv b1)).put (some 130) (.slice (some ⟨wB.heap.size, 0, none⟩) 4 4)) (.func f) = .func (.func f) #[] #[] := fun _ => rfl
          generalize Act.eval (((((((((a0.put (some 121) (pv b1)).put (some 122) (.slice (some ⟨W0.heap.size, 0, none⟩) 3 3)).put (some 123) (vA)).put (some 124) (.slice (some ⟨wA.heap.size, 0, none⟩) 4 4)).put (some 125) (.bool true)).put (some 126) (.bool false)).put (some 127) (.bool false)).put (some 128) (pv b1)).put (some 130) (.slice (some ⟨wB.heap.size, 0, none⟩) 4 4)) = ρ at *
          simp only [List.getElem_toArray, List.getElem_cons_zero, List.getElem_cons_succ]
          go_simp
        refine (img5 wB hKB).mono ?_
        rintro e wC ⟨vC, rfl, hSC, hLC, hKC⟩
        refine ⟨vC, rfl, ?_⟩
        refine wpAnyH_ready (rs := [10]) (by kernel_rfl) (by simp) ?_
        refine any_enter (i := 10) (d := some 131) (f := 19) (args := #[vC, .slice (some ⟨wB.heap.size, 0, none⟩) 4 4]) (w' := wC) rfl rfl (wanted_guard (j := 6) (d := 127) (want := false) rfl rfl (by rw [tmp_put_ne _ _ _ _ (by decide), tmp_put_ne _ _ _ _ (by decide), tmp_put_ne _ _ _ _ (by decide), tmp_put_same _ _ _ (by (repeat rw [Act.size_put]); omega)])) ?_ ?_ AllReadyH.nil
        · skip
          have e129 : Act.eval ((((((((((a0.put (some 121) (pv b1)).put (some 122) (.slice (some ⟨W0.heap.size, 0, none⟩) 3 3)).put (some 123) (vA)).put (some 124) (.slice (some ⟨wA.heap.size, 0, none⟩) 4 4)).put (some 125) (.bool true)).put (some 126) (.bool false)).put (some 127) (.bool false)).put (some 128) (pv b1)).put (some 130) (.slice (some ⟨wB.heap.size, 0, none⟩) 4 4)).put (some 129) (vC)) (.tmp 129) = vC := by rw [Act.eval_put_same _ _ _ (by (repeat rw [Act.size_put]); omega)]
          have e130 : Act.eval ((((((((((a0.put (some 121) (pv b1)).put (some 122) (.slice (some ⟨W0.heap.size, 0, none⟩) 3 3)).put (some 123) (vA)).put (some 124) (.slice (some ⟨wA.heap.size, 0, none⟩) 4 4)).put (some 125) (.bool true)).put (some 126) (.bool false)).put (some 127) (.bool false)).put (some 128) (pv b1)).put (some 130) (.slice (some ⟨wB.heap.size, 0, none⟩) 4 4)).put (some 129) (vC)) (.tmp 130) = .slice (some ⟨wB.heap.size, 0, none⟩) 4 4 := by rw [Act.eval_put_ne _ _ _ _ (by decide), Act.eval_put_same _ _ _ (by (repeat rw [Act.size_put]); omega)]
          have ec : ∀ v, Act.eval ((((((((((a0.put (some 121) (pv b1)).put (some 122) (.slice (some ⟨W0.heap.size, 0, none⟩) 3 3)).put (some 123) (vA)).put (some 124) (.slice (some ⟨wA.heap.size, 0, none⟩) 4 4)).put (some 125) (.bool true)).put (some 126) (.bool false)).put (some 127) (.bool false)).put (some 128) (pv b1)).put (some 130) (.slice (some ⟨wB.heap.size, 0, none⟩) 4 4)).put (some 129) (vC)) (.const v) = v := fun _ => rfl
          have ef : ∀ f, Act.eval ((((((((((a0.put (some 121) (pv b1)).put (some 122) (.slice (some ⟨W0.heap.size, 0, none⟩) 3 3)).put (some 123) (vA)).put (some 124) (.slice (some ⟨wA.heap.size, 0, none⟩) 4 4)).put (some 125) (.bool true)).put (some 126) (.bool false)).put (some 127) (.bool false)).put (some 128) (pv b1)).put (some 130) (.slice (some ⟨wB.heap.size, 0, none⟩) 4 4)).put (some 129) (vC)) (.func f) = .func (.func f) #[] #[] := fun _ => rfl
          generalize Act.eval ((((((((((a0.put (some 121) (pv b1)).put (some 122) (.slice (some ⟨W0.heap.size, 0, none⟩) 3 3)).put (some 123) (vA)).put (some 124) (.slice (some ⟨wA.heap.size, 0, none⟩) 4 4)).put (some 125) (.bool true)).put (some 126) (.bool false)).put (some 127) (.bool false)).put (some 128) (pv b1)).put (some 130) (.slice (some ⟨wB.heap.size, 0, none⟩) 4 4)).put (some 129) (vC)) = ρ at *
          simp only [List.getElem_toArray, List.getElem_cons_zero, List.getElem_cons_succ]
          go_simp
        refine (tru4 wC hSC hLC hKC).mono ?_
        rintro e wD ⟨rfl, hKD⟩
        refine ⟨_, rfl, ?_⟩
        refine any_take (i := 11) (d := some 132) (v := .bool false) rfl rfl (by kernel_rfl) (by kernel_rfl) (by kernel_rfl) (fun _ _ _ h => h) (wanted_guard (j := 6) (d := 127) (want := false) rfl rfl (by rw [tmp_put_ne _ _ _ _ (by decide), tmp_put_ne _ _ _ _ (by decide), tmp_put_ne _ _ _ _ (by decide), tmp_put_ne _ _ _ _ (by decide), tmp_put_same _ _ _ (by (repeat rw [Act.size_put]); omega)])) ?_ ?_
        · intro w9
          have e131 : Act.eval (((((((((((a0.put (some 121) (pv b1)).put (some 122) (.slice (some ⟨W0.heap.size, 0, none⟩) 3 3)).put (some 123) (vA)).put (some 124) (.slice (some ⟨wA.heap.size, 0, none⟩) 4 4)).put (some 125) (.bool true)).put (some 126) (.bool false)).put (some 127) (.bool false)).put (some 128) (pv b1)).put (some 130) (.slice (some ⟨wB.heap.size, 0, none⟩) 4 4)).put (some 129) (vC)).put (some 131) (.bool true)) (.tmp 131) = .bool true := by rw [Act.eval_put_same _ _ _ (by (repeat rw [Act.size_put]); omega)]
          have ec : ∀ v, Act.eval (((((((((((a0.put (some 121) (pv b1)).put (some 122) (.slice (some ⟨W0.heap.size, 0, none⟩) 3 3)).put (some 123) (vA)).put (some 124) (.slice (some ⟨wA.heap.size, 0, none⟩) 4 4)).put (some 125) (.bool true)).put (some 126) (.bool false)).put (some 127) (.bool false)).put (some 128) (pv b1)).put (some 130) (.slice (some ⟨wB.heap.size, 0, none⟩) 4 4)).put (some 129) (vC)).put (some 131) (.bool true)) (.const v) = v := fun _ => rfl
          have ef : ∀ f, Act.eval (((((((((((a0.put (some 121) (pv b1)).put (some 122) (.slice (some ⟨W0.heap.size, 0, none⟩) 3 3)).put (some 123) (vA)).put (some 124) (.slice (some ⟨wA.heap.size, 0, none⟩) 4 4)).put (some 125) (.bool true)).put (some 126) (.bool false)).put (some 127) (.bool false)).put (some 128) (pv b1)).put (some 130) (.slice (some ⟨wB.heap.size, 0, none⟩) 4 4)).put (some 129) (vC)).put (some 131) (.bool true)) (.func f) = .func (.func f) #[] #[] := fun _ => rfl
          generalize Act.eval (((((((((((a0.put (some 121) (pv b1)).put (some 122) (.slice (some ⟨W0.heap.size, 0, none⟩) 3 3)).put (some 123) (vA)).put (some 124) (.slice (some ⟨wA.heap.size, 0, none⟩) 4 4)).put (some 125) (.bool true)).put (some 126) (.bool false)).put (some 127) (.bool false)).put (some 128) (pv b1)).put (some 130) (.slice (some ⟨wB.heap.size, 0, none⟩) 4 4)).put (some 129) (vC)).put (some 131) (.bool true)) = ρ at *
          simp only [List.getElem_toArray, List.getElem_cons_zero, List.getElem_cons_succ]
          go_simp
        refine any_take (i := 12) (d := some 133) (v := .bool false) rfl rfl (by kernel_rfl) (by kernel_rfl) (by kernel_rfl) (fun _ _ _ h => h) (by rfl) ?_ ?_
        · intro w9
          have e127 : Act.eval ((((((((((((a0.put (some 121) (pv b1)).put (some 122) (.slice (some ⟨W0.heap.size, 0, none⟩) 3 3)).put (some 123) (vA)).put (some 124) (.slice (some ⟨wA.heap.size, 0, none⟩) 4 4)).put (some 125) (.bool true)).put (some 126) (.bool false)).put (some 127) (.bool false)).put (some 128) (pv b1)).put (some 130) (.slice (some ⟨wB.heap.size, 0, none⟩) 4 4)).put (some 129) (vC)).put (some 131) (.bool true)).put (some 132) (.bool false)) (.tmp 127) = .bool false := by rw [Act.eval_put_ne _ _ _ _ (by decide), Act.eval_put_ne _ _ _ _ (by decide), Act.eval_put_ne _ _ _ _ (by decide), Act.eval_put_ne _ _ _ _ (by decide), Act.eval_put_ne _ _ _ _ (by decide), Act.eval_put_same _ _ _ (by (repeat rw [Act.size_put]); omega)]
          have e132 : Act.eval ((((((((((((a0.put (some 121) (pv b1)).put (some 122) (.slice (some ⟨W0.heap.size, 0, none⟩) 3 3)).put (some 123) (vA)).put (some 124) (.slice (some ⟨wA.heap.size, 0, none⟩) 4 4)).put (some 125) (.bool true)).put (some 126) (.bool false)).put (some 127) (.bool false)).put (some 128) (pv b1)).put (some 130) (.slice (some ⟨wB.heap.size, 0, none⟩) 4 4)).put (some 129) (vC)).put (some 131) (.bool true)).put (some 132) (.bool false)) (.tmp 132) = .bool false := by rw [Act.eval_put_same _ _ _ (by (repeat rw [Act.size_put]); omega)]
          have ec : ∀ v, Act.eval ((((((((((((a0.put (some 121) (pv b1)).put (some 122) (.slice (some ⟨W0.heap.size, 0, none⟩) 3 3)).put (some 123) (vA)).put (some 124) (.slice (some ⟨wA.heap.size, 0, none⟩) 4 4)).put (some 125) (.bool true)).put (some 126) (.bool false)).put (some 127) (.bool false)).put (some 128) (pv b1)).put (some 130) (.slice (some ⟨wB.heap.size, 0, none⟩) 4 4)).put (some 129) (vC)).put (some 131) (.bool true)).put (some 132) (.bool false)) (.const v) = v := fun _ => rfl
          have ef : ∀ f, Act.eval ((((((((((((a0.put (some 121) (pv b1)).put (some 122) (.slice (some ⟨W0.heap.size, 0, none⟩) 3 3)).put (some 123) (vA)).put (some 124) (.slice (some ⟨wA.heap.size, 0, none⟩) 4 4)).put (some 125) (.bool true)).put (some 126) (.bool false)).put (some 127) (.bool false)).put (some 128) (pv b1)).put (some 130) (.slice (some ⟨wB.heap.size, 0, none⟩) 4 4)).put (some 129) (vC)).put (some 131) (.bool true)).put (some 132) (.bool false)) (.func f) = .func (.func f) #[] #[] := fun _ => rfl
          generalize Act.eval ((((((((((((a0.put (some 121) (pv b1)).put (some 122) (.slice (some ⟨W0.heap.size, 0, none⟩) 3 3)).put (some 123) (vA)).put (some 124) (.slice (some ⟨wA.heap.size, 0, none⟩) 4 4)).put (some 125) (.bool true)).put (some 126) (.bool false)).put (some 127) (.bool false)).put (some 128) (pv b1)).put (some 130) (.slice (some ⟨wB.heap.size, 0, none⟩) 4 4)).put (some 129) (vC)).put (some 131) (.bool true)).put (some 132) (.bool false)) = ρ at *
          simp only [List.getElem_toArray, List.getElem_cons_zero, List.getElem_cons_succ]
          go_simp
        refine wpAnyH_done (by kernel_rfl) ?_ _
        subst hA
        simp only [Act.put, List.setIfInBounds_toArray, List.set_cons_zero, List.set_cons_succ]
        go_wp2_with fail
        go_meet
        exact ⟨rfl, hKD⟩
      refine any_value (i := 3) (d := some 124) (v := .slice (some ⟨W0.heap.size + 1, 0, none⟩) 4 4) (w' := (W0.alloc oA).alloc oB) rfl rfl (by rfl) ?_ ?_ AllReadyH.nil
      · skip
        have ec : ∀ v, Act.eval ((a0.put (some 121) (pv b1)).put (some 122) (.slice (some ⟨W0.heap.size, 0, none⟩) 3 3)) (.const v) = v := fun _ => rfl
        have ef : ∀ f, Act.eval ((a0.put (some 121) (pv b1)).put (some 122) (.slice (some ⟨W0.heap.size, 0, none⟩) 3 3)) (.func f) = .func (.func f) #[] #[] := fun _ => rfl
        generalize Act.eval ((a0.put (some 121) (pv b1)).put (some 122) (.slice (some ⟨W0.heap.size, 0, none⟩) 3 3)) = ρ at *
        simp only [List.getElem_toArray, List.getElem_cons_zero, List.getElem_cons_succ]
        go_simp
      refine wpAnyH_ready (rs := [2]) (by kernel_rfl) (by simp) ?_
      refine any_enter (i := 2) (d := some 123) (f := 20) (args := #[pv b1, .slice (some ⟨W0.heap.size, 0, none⟩) 3 3]) (w' := (W0.alloc oA).alloc oB) rfl rfl (by rfl) ?_ ?_ AllReadyH.nil
      · skip
        have e121 : Act.eval (((a0.put (some 121) (pv b1)).put (some 122) (.slice (some ⟨W0.heap.size, 0, none⟩) 3 3)).put (some 124) (.slice (some ⟨W0.heap.size + 1, 0, none⟩) 4 4)) (.tmp 121) = pv b1 := by rw [Act.eval_put_ne _ _ _ _ (by decide), Act.eval_put_ne _ _ _ _ (by decide), Act.eval_put_same _ _ _ (by (repeat rw [Act.size_put]); omega)]
        have e122 : Act.eval (((a0.put (some 121) (pv b1)).put (some 122) (.slice (some ⟨W0.heap.size, 0, none⟩) 3 3)).put (some 124) (.slice (some ⟨W0.heap.size + 1, 0, none⟩) 4 4)) (.tmp 122) = .slice (some ⟨W0.heap.size, 0, none⟩) 3 3 := by rw [Act.eval_put_ne _ _ _ _ (by decide), Act.eval_put_same _ _ _ (by (repeat rw [Act.size_put]); omega)]
        have ec : ∀ v, Act.eval (((a0.put (some 121) (pv b1)).put (some 122) (.slice (some ⟨W0.heap.size, 0, none⟩) 3 3)).put (some 124) (.slice (some ⟨W0.heap.size + 1, 0, none⟩) 4 4)) (.const v) = v := fun _ => rfl
        have ef : ∀ f, Act.eval (((a0.put (some 121) (pv b1)).put (some 122) (.slice (some ⟨W0.heap.size, 0, none⟩) 3 3)).put (some 124) (.slice (some ⟨W0.heap.size + 1, 0, none⟩) 4 4)) (.func f) = .func (.func f) #[] #[] := fun _ => rfl
        generalize Act.eval (((a0.put (some 121) (pv b1)).put (some 122) (.slice (some ⟨W0.heap.size, 0, none⟩) 3 3)).put (some 124) (.slice (some ⟨W0.heap.size + 1, 0, none⟩) 4 4)) = ρ at *
        simp only [List.getElem_toArray, List.getElem_cons_zero, List.getElem_cons_succ]
        go_simp
      refine (img2 W0 hK).mono ?_
      rintro e wA ⟨vA, rfl, hSA, hLA, hKA⟩
      refine ⟨vA, rfl, ?_⟩
      refine wpAnyH_ready (rs := [4]) (by kernel_rfl) (by simp) ?_
      refine any_enter (i := 4) (d := some 125) (f := 19) (args := #[vA, .slice (some ⟨W0.heap.size + 1, 0, none⟩) 4 4]) (w' := wA) rfl rfl (by rfl) ?_ ?_ AllReadyH.nil
      · skip
        have e123 : Act.eval ((((a0.put (some 121) (pv b1)).put (some 122) (.slice (some ⟨W0.heap.size, 0, none⟩) 3 3)).put (some 124) (.slice (some ⟨W0.heap.size + 1, 0, none⟩) 4 4)).put (some 123) (vA)) (.tmp 123) = vA := by rw [Act.eval_put_same _ _ _ (by (repeat rw [Act.size_put]); omega)]
        have e124 : Act.eval ((((a0.put (some 121) (pv b1)).put (some 122) (.slice (some ⟨W0.heap.size, 0, none⟩) 3 3)).put (some 124) (.slice (some ⟨W0.heap.size + 1, 0, none⟩) 4 4)).put (some 123) (vA)) (.tmp 124) = .slice (some ⟨W0.heap.size + 1, 0, none⟩) 4 4 := by rw [Act.eval_put_ne _ _ _ _ (by decide), Act.eval_put_same _ _ _ (by (repeat rw [Act.size_put]); omega)]
        have ec : ∀ v, Act.eval ((((a0.put (some 121) (pv b1)).put (some 122) (.slice (some ⟨W0.heap.size, 0, none⟩) 3 3)).put (some 124) (.slice (some ⟨W0.heap.size + 1, 0, none⟩) 4 4)).put (some 123) (vA)) (.const v) = v := fun _ => rfl
        have ef : ∀ f, Act.eval ((((a0.put (some 121) (pv b1)).put (some 122) (.slice (some ⟨W0.heap.size, 0, none⟩) 3 3)).put (some 124) (.slice (some ⟨W0.heap.size + 1, 0, none⟩) 4 4)).put (some 123) (vA)) (.func f) = .func (.func f) #[] #[] := fun _ => rfl
        generalize Act.eval ((((a0.put (some 121) (pv b1)).put (some 122) (.slice (some ⟨W0.heap.size, 0, none⟩) 3 3)).put (some 124) (.slice (some ⟨W0.heap.size + 1, 0, none⟩) 4 4)).put (some 123) (vA)) = ρ at *
        simp only [List.getElem_toArray, List.getElem_cons_zero, List.getElem_cons_succ]
        go_simp
      refine (tru2 wA hSA hLA hKA).mono ?_
      rintro e wB ⟨rfl, hKB⟩
      refine ⟨_, rfl, ?_⟩
      refine any_take (i := 5) (d := some 126) (v := .bool false) rfl rfl (by kernel_rfl) (by kernel_rfl) (by kernel_rfl) (fun _ _ _ h => h) (by rfl) ?_ ?_
      · intro w9
        have e125 : Act.eval (((((a0.put (some 121) (pv b1)).put (some 122) (.slice (some ⟨W0.heap.size, 0, none⟩) 3 3)).put (some 124) (.slice (some ⟨W0.heap.size + 1, 0, none⟩) 4 4)).put (some 123) (vA)).put (some 125) (.bool true)) (.tmp 125) = .bool true := by rw [Act.eval_put_same _ _ _ (by (repeat rw [Act.size_put]); omega)]
        have ec : ∀ v, Act.eval (((((a0.put (some 121) (pv b1)).put (some 122) (.slice (some ⟨W0.heap.size, 0, none⟩) 3 3)).put (some 124) (.slice (some ⟨W0.heap.size + 1, 0, none⟩) 4 4)).put (some 123) (vA)).put (some 125) (.bool true)) (.const v) = v := fun _ => rfl
        have ef : ∀ f, Act.eval (((((a0.put (some 121) (pv b1)).put (some 122) (.slice (some ⟨W0.heap.size, 0, none⟩) 3 3)).put (some 124) (.slice (some ⟨W0.heap.size + 1, 0, none⟩) 4 4)).put (some 123) (vA)).put (some 125) (.bool true)) (.func f) = .func (.func f) #[] #[] := fun _ => rfl
        generalize Act.eval (((((a0.put (some 121) (pv b1)).put (some 122) (.slice (some ⟨W0.heap.size, 0, none⟩) 3 3)).put (some 124) (.slice (some ⟨W0.heap.size + 1, 0, none⟩) 4 4)).put (some 123) (vA)).put (some 125) (.bool true)) = ρ at *
        simp only [List.getElem_toArray, List.getElem_cons_zero, List.getElem_cons_succ]
        go_simp
      refine any_take (i := 6) (d := some 127) (v := .bool false) rfl rfl (by kernel_rfl) (by kernel_rfl) (by kernel_rfl) (fun _ _ _ h => h) (by rfl) ?_ ?_
      · intro w9
        have e126 : Act.eval ((((((a0.put (some 121) (pv b1)).put (some 122) (.slice (some ⟨W0.heap.size, 0, none⟩) 3 3)).put (some 124) (.slice (some ⟨W0.heap.size + 1, 0, none⟩) 4 4)).put (some 123) (vA)).put (some 125) (.bool true)).put (some 126) (.bool false)) (.tmp 126) = .bool false := by rw [Act.eval_put_same _ _ _ (by (repeat rw [Act.size_put]); omega)]
        have ec : ∀ v, Act.eval ((((((a0.put (some 121) (pv b1)).put (some 122) (.slice (some ⟨W0.heap.size, 0, none⟩) 3 3)).put (some 124) (.slice (some ⟨W0.heap.size + 1, 0, none⟩) 4 4)).put (some 123) (vA)).put (some 125) (.bool true)).put (some 126) (.bool false)) (.const v) = v := fun _ => rfl
        have ef : ∀ f, Act.eval ((((((a0.put (some 121) (pv b1)).put (some 122) (.slice (some ⟨W0.heap.size, 0, none⟩) 3 3)).put (some 124) (.slice (some ⟨W0.heap.size + 1, 0, none⟩) 4 4)).put (some 123) (vA)).put (some 125) (.bool true)).put (some 126) (.bool false)) (.func f) = .func (.func f) #[] #[] := fun _ => rfl
        generalize Act.eval ((((((a0.put (some 121) (pv b1)).put (some 122) (.slice (some ⟨W0.heap.size, 0, none⟩) 3 3)).put (some 124) (.slice (some ⟨W0.heap.size + 1, 0, none⟩) 4 4)).put (some 123) (vA)).put (some 125) (.bool true)).put (some 126) (.bool false)) = ρ at *
        simp only [List.getElem_toArray, List.getElem_cons_zero, List.getElem_cons_succ]
        go_simp
      refine any_take (i := 7) (d := some 128) (v := pv b1) rfl rfl (by kernel_rfl) (by kernel_rfl) (by kernel_rfl) (fun _ _ _ h => h) (wanted_guard (j := 6) (d := 127) (want := false) rfl rfl (by rw [tmp_put_same _ _ _ (by (repeat rw [Act.size_put]); omega)])) ?_ ?_
      · intro w9
        have e1 : Act.eval (((((((a0.put (some 121) (pv b1)).put (some 122) (.slice (some ⟨W0.heap.size, 0, none⟩) 3 3)).put (some 124) (.slice (some ⟨W0.heap.size + 1, 0, none⟩) 4 4)).put (some 123) (vA)).put (some 125) (.bool true)).put (some 126) (.bool false)).put (some 127) (.bool false)) (.tmp 1) = pv b1 := by rw [Act.eval_put_ne _ _ _ _ (by decide), Act.eval_put_ne _ _ _ _ (by decide), Act.eval_put_ne _ _ _ _ (by decide), Act.eval_put_ne _ _ _ _ (by decide), Act.eval_put_ne _ _ _ _ (by decide), Act.eval_put_ne _ _ _ _ (by decide), Act.eval_put_ne _ _ _ _ (by decide), h1]
        have ec : ∀ v, Act.eval (((((((a0.put (some 121) (pv b1)).put (some 122) (.slice (some ⟨W0.heap.size, 0, none⟩) 3 3)).put (some 124) (.slice (some ⟨W0.heap.size + 1, 0, none⟩) 4 4)).put (some 123) (vA)).put (some 125) (.bool true)).put (some 126) (.bool false)).put (some 127) (.bool false)) (.const v) = v := fun _ => rfl
        have ef : ∀ f, Act.eval (((((((a0.put (some 121) (pv b1)).put (some 122) (.slice (some ⟨W0.heap.size, 0, none⟩) 3 3)).put (some 124) (.slice (some ⟨W0.heap.size + 1, 0, none⟩) 4 4)).put (some 123) (vA)).put (some 125) (.bool true)).put (some 126) (.bool false)).put (some 127) (.bool false)) (.func f) = .func (.func f) #[] #[] := fun _ => rfl
        generalize Act.eval (((((((a0.put (some 121) (pv b1)).put (some 122) (.slice (some ⟨W0.heap.size, 0, none⟩) 3 3)).put (some 124) (.slice (some ⟨W0.heap.size + 1, 0, none⟩) 4 4)).put (some 123) (vA)).put (some 125) (.bool true)).put (some 126) (.bool false)).put (some 127) (.bool false)) = ρ at *
        simp only [List.getElem_toArray, List.getElem_cons_zero, List.getElem_cons_succ]
        go_simp
      refine wpAnyH_ready (rs := [8, 9]) (by kernel_rfl) (by simp) ?_
      refine any_enter (i := 8) (d := some 129) (f := 20) (args := #[pv b1, .slice none 0 0]) (w' := wB) rfl rfl (wanted_guard (j := 6) (d := 127) (want := false) rfl rfl (by rw [tmp_put_ne _ _ _ _ (by decide), tmp_put_same _ _ _ (by (repeat rw [Act.size_put]); omega)])) ?_ ?_ ?_
      · skip
        have e128 : Act.eval ((((((((a0.put (some 121) (pv b1)).put (some 122) (.slice (some ⟨W0.heap.size, 0, none⟩) 3 3)).put (some 124) (.slice (some ⟨W0.heap.size + 1, 0, none⟩) 4 4)).put (some 123) (vA)).put (some 125) (.bool true)).put (some 126) (.bool false)).put (some 127) (.bool false)).put (some 128) (pv b1)) (.tmp 128) = pv b1 := by rw [Act.eval_put_same _ _ _ (by (repeat rw [Act.size_put]); omega)]
        have ec : ∀ v, Act.eval ((((((((a0.put (some 121) (pv b1)).put (some 122) (.slice (some ⟨W0.heap.size, 0, none⟩) 3 3)).put (some 124) (.slice (some ⟨W0.heap.size + 1, 0, none⟩) 4 4)).put (some 123) (vA)).put (some 125) (.bool true)).put (some 126) (.bool false)).put (some 127) (.bool false)).put (some 128) (pv b1)) (.const v) = v := fun _ => rfl
        have ef : ∀ f, Act.eval ((((((((a0.put (some 121) (pv b1)).put (some 122) (.slice (some ⟨W0.heap.size, 0, none⟩) 3 3)).put (some 124) (.slice (some ⟨W0.heap.size + 1, 0, none⟩) 4 4)).put (some 123) (vA)).put (some 125) (.bool true)).put (some 126) (.bool false)).put (some 127) (.bool false)).put (some 128) (pv b1)) (.func f) = .func (.func f) #[] #[] := fun _ => rfl
        generalize Act.eval ((((((((a0.put (some 121) (pv b1)).put (some 122) (.slice (some ⟨W0.heap.size, 0, none⟩) 3 3)).put (some 124) (.slice (some ⟨W0.heap.size + 1, 0, none⟩) 4 4)).put (some 123) (vA)).put (some 125) (.bool true)).put (some 126) (.bool false)).put (some 127) (.bool false)).put (some 128) (pv b1)) = ρ at *
        simp only [List.getElem_toArray, List.getElem_cons_zero, List.getElem_cons_succ]
        go_simp
      · refine (img4 wB hKB).mono ?_
        rintro e wC ⟨vC, rfl, hSC, hKC⟩
        refine ⟨vC, rfl, ?_⟩
        refine wpAnyH_ready (rs := [9]) (by kernel_rfl) (by simp) ?_
        refine any_value (i := 9) (d := some 130) (v := .slice (some ⟨wC.heap.size, 0, none⟩) 4 4) (w' := wC.alloc oC) rfl rfl (wanted_guard (j := 6) (d := 127) (want := false) rfl rfl (by rw [tmp_put_ne _ _ _ _ (by decide), tmp_put_ne _ _ _ _ (by decide), tmp_put_same _ _ _ (by (repeat rw [Act.size_put]); omega)])) ?_ ?_ AllReadyH.nil
        · skip
          have ec : ∀ v, Act.eval (((((((((a0.put (some 121) (pv b1)).put (some 122) (.slice (some ⟨W0.heap.size, 0, none⟩) 3 3)).put (some 124) (.slice (some ⟨W0.heap.size + 1, 0, none⟩) 4 4)).put (some 123) (vA)).put (some 125) (.bool true)).put (some 126) (.bool false)).put (some 127) (.bool false)).put (some 128) (pv b1)).put (some 129) (vC)) (.const v) = v := fun _ => rfl
          have ef : ∀ f, Act.eval (((((((((a0.put (some 121) (pv b1)).put (some 122) (.slice (some ⟨W0.heap.size, 0, none⟩) 3 3)).put (some 124) (.slice (some ⟨W0.heap.size + 1, 0, none⟩) 4 4)).put (some 123) (vA)).put (some 125) (.bool true)).put (some 126) (.bool false)).put (some 127) (.bool false)).put (some 128) (pv b1)).put (some 129) (vC)) (.func f) = .func (.func f) #[] #[] := fun _ => rfl
          generalize Act.eval (((((((((a0.put (some 121) (pv b1)).put (some 122) (.slice (some ⟨W0.heap.size, 0, none⟩) 3 3)).put (some 124) (.slice (some ⟨W0.heap.size + 1, 0, none⟩) 4 4)).put (some 123) (vA)).put (some 125) (.bool true)).put (some 126) (.bool false)).put (some 127) (.bool false)).put (some 128) (pv b1)).put (some 129) (vC)) = ρ at *
          simp only [List.getElem_toArray, List.getElem_cons_zero, List.getElem_cons_succ]
          have hmk := make4
          go_simp
        refine wpAnyH_ready (rs := [10]) (by kernel_rfl) (by simp) ?_
        refine any_enter (i := 10) (d := some 131) (f := 19) (args := #[vC, .slice (some ⟨wC.heap.size, 0, none⟩) 4 4]) (w' := wC.alloc oC) rfl rfl (wanted_guard (j := 6) (d := 127) (want := false) rfl rfl (by rw [tmp_put_ne _ _ _ _ (by decide), tmp_put_ne _ _ _ _ (by decide), tmp_put_ne _ _ _ _ (by decide), tmp_put_same _ _ _ (by (repeat rw [Act.size_put]); omega)])) ?_ ?_ AllReadyH.nil
        · skip
          have e129 : Act.eval ((((((((((a0.put (some 121) (pv b1)).put (some 122) (.slice (some ⟨W0.heap.size, 0, none⟩) 3 3)).put (some 124) (.slice (some ⟨W0.heap.size + 1, 0, none⟩) 4 4)).put (some 123) (vA)).put (some 125) (.bool true)).put (some 126) (.bool false)).put (some 127) (.bool false)).put (some 128) (pv b1)).put (some 129) (vC)).put (some 130) (.slice (some ⟨wC.heap.size, 0, none⟩) 4 4)) (.tmp 129) = vC := by rw [Act.eval_put_ne _ _ _ _ (by decide), Act.eval_put_same _ _ _ (by (repeat rw [Act.size_put]); omega)]
          have e130 : Act.eval ((((((((((a0.put (some 121) (pv b1)).put (some 122) (.slice (some ⟨W0.heap.size, 0, none⟩) 3 3)).put (some 124) (.slice (some ⟨W0.heap.size + 1, 0, none⟩) 4 4)).put (some 123) (vA)).put (some 125) (.bool true)).put (some 126) (.bool false)).put (some 127) (.bool false)).put (some 128) (pv b1)).put (some 129) (vC)).put (some 130) (.slice (some ⟨wC.heap.size, 0, none⟩) 4 4)) (.tmp 130) = .slice (some ⟨wC.heap.size, 0, none⟩) 4 4 := by rw [Act.eval_put_same _ _ _ (by (repeat rw [Act.size_put]); omega)]
          have ec : ∀ v, Act.eval ((((((((((a0.put (some 121) (pv b1)).put (some 122) (.slice (some ⟨W0.heap.size, 0, none⟩) 3 3)).put (some 124) (.slice (some ⟨W0.heap.size + 1, 0, none⟩) 4 4)).put (some 123) (vA)).put (some 125) (.bool true)).put (some 126) (.bool false)).put (some 127) (.bool false)).put (some 128) (pv b1)).put (some 129) (vC)).put (some 130) (.slice (some ⟨wC.heap.size, 0, none⟩) 4 4)) (.const v) = v := fun _ => rfl
          have ef : ∀ f, Act.eval ((((((((((a0.put (some 121) (pv b1)).put (some 122) (.slice (some ⟨W0.heap.size, 0, none⟩) 3 3)).put (some 124) (.slice (some ⟨W0.heap.size + 1, 0, none⟩) 4 4)).put (some 123) (vA)).put (some 125) (.bool true)).put (some 126) (.bool false)).put (some 127) (.bool false)).put (some 128) (pv b1)).put (some 129) (vC)).put (some 130) (.slice (some ⟨wC.heap.size, 0, none⟩) 4 4)) (.func f) = .func (.func f) #[] #[] := fun _ => rfl
          generalize Act.eval ((((((((((a0.put (some 121) (pv b1)).put (some 122) (.slice (some ⟨W0.heap.size, 0, none⟩) 3 3)).put (some 124) (.slice (some ⟨W0.heap.size + 1, 0, none⟩) 4 4)).put (some 123) (vA)).put (some 125) (.bool true)).put (some 126) (.bool false)).put (some 127) (.bool false)).put (some 128) (pv b1)).put (some 129) (vC)).put (some 130) (.slice (some ⟨wC.heap.size, 0, none⟩) 4 4)) = ρ at *
          simp only [List.getElem_toArray, List.getElem_cons_zero, List.getElem_cons_succ]
          go_simp
        refine (tru3 wC hSC hKC).mono ?_
        rintro e wD ⟨rfl, hKD⟩
        refine ⟨_, rfl, ?_⟩
        refine any_take (i := 11) (d := some 132) (v := .bool false) rfl rfl (by kernel_rfl) (by kernel_rfl) (by kernel_rfl) (fun _ _ _ h => h) (wanted_guard (j := 6) (d := 127) (want := false) rfl rfl (by rw [tmp_put_ne _ _ _ _ (by decide), tmp_put_ne _ _ _ _ (by decide), tmp_put_ne _ _ _ _ (by decide), tmp_put_ne _ _ _ _ (by decide), tmp_put_same _ _ _ (by (repeat rw [Act.size_put]); omega)])) ?_ ?_
        · intro w9
          have e131 : Act.eval (((((((((((a0.put (some 121) (pv b1)).put (some 122) (.slice (some ⟨W0.heap.size, 0, none⟩) 3 3)).put (some 124) (.slice (some ⟨W0.heap.size + 1, 0, none⟩) 4 4)).put (some 123) (vA)).put (some 125) (.bool true)).put (some 126) (.bool false)).put (some 127) (.bool false)).put (some 128) (pv b1)).put (some 129) (vC)).put (some 130) (.slice (some ⟨wC.heap.size, 0, none⟩) 4 4)).put (some 131) (.bool true)) (.tmp 131) = .bool true := by rw [Act.eval_put_same _ _ _ (by (repeat rw [Act.size_put]); omega)]
          have ec : ∀ v, Act.eval (((((((((((a0.put (some 121) (pv b1)).put (some 122) (.slice (some ⟨W0.heap.size, 0, none⟩) 3 3)).put (some 124) (.slice (some ⟨W0.heap.size + 1, 0, none⟩) 4 4)).put (some 123) (vA)).put (some 125) (.bool true)).put (some 126) (.bool false)).put (some 127) (.bool false)).put (some 128) (pv b1)).put (some 129) (vC)).put (some 130) (.slice (some ⟨wC.heap.size, 0, none⟩) 4 4)).put (some 131) (.bool true)) (.const v) = v := fun _ => rfl
          have ef : ∀ f, Act.eval (((((((((((a0.put (some 121) (pv b1)).put (some 122) (.slice (some ⟨W0.heap.size, 0, none⟩) 3 3)).put (some 124) (.slice (some ⟨W0.heap.size + 1, 0, none⟩) 4 4)).put (some 123) (vA)).put (some 125) (.bool true)).put (some 126) (.bool false)).put (some 127) (.bool false)).put (some 128) (pv b1)).put (some 129) (vC)).put (some 130) (.slice (some ⟨wC.heap.size, 0, none⟩) 4 4)).put (some 131) (.bool true)) (.func f) = .func (.func f) #[] #[] := fun _ => rfl
          generalize Act.eval (((((((((((a0.put (some 121) (pv b1)).put (some 122) (.slice (some ⟨W0.heap.size, 0, none⟩) 3 3)).put (some 124) (.slice (some ⟨W0.heap.size + 1, 0, none⟩) 4 4)).put (some 123) (vA)).put (some 125) (.bool true)).put (some 126) (.bool false)).put (some 127) (.bool false)).put (some 128) (pv b1)).put (some 129) (vC)).put (some 130) (.slice (some ⟨wC.heap.size, 0, none⟩) 4 4)).put (some 131) (.bool true)) = ρ at *
          simp only [List.getElem_toArray, List.getElem_cons_zero, List.getElem_cons_succ]
          go_simp
        refine any_take (i := 12) (d := some 133) (v := .bool false) rfl rfl (by kernel_rfl) (by kernel_rfl) (by kernel_rfl) (fun _ _ _ h => h) (by rfl) ?_ ?_
        · intro w9
          have e127 : Act.eval ((((((((((((a0.put (some 121) (pv b1)).put (some 122) (.slice (some ⟨W0.heap.size, 0, none⟩) 3 3)).put (some 124) (.slice (some ⟨W0.heap.size + 1, 0, none⟩) 4 4)).put (some 123) (vA)).put (some 125) (.bool true)).put (some 126) (.bool false)).put (some 127) (.bool false)).put (some 128) (pv b1)).put (some 129) (vC)).put (some 130) (.slice (some ⟨wC.heap.size, 0, none⟩) 4 4)).put (some 131) (.bool true)).put (some 132) (.bool false)) (.tmp 127) = .bool false := by rw [Act.eval_put_ne _ _ _ _ (by decide), Act.eval_put_ne _ _ _ _ (by decide), Act.eval_put_ne _ _ _ _ (by decide), Act.eval_put_ne _ _ _ _ (by decide), Act.eval_put_ne _ _ _ _ (by decide), Act.eval_put_same _ _ _ (by (repeat rw [Act.size_put]); omega)]
          have e132 : Act.eval ((((((((((((a0.put (some 121) (pv b1)).put (some 122) (.slice (some ⟨W0.heap.size, 0, none⟩) 3 3)).put (some 124) (.slice (some ⟨W0.heap.size + 1, 0, none⟩) 4 4)).put (some 123) (vA)).put (some 125) (.bool true)).put (some 126) (.bool false)).put (some 127) (.bool false)).put (some 128) (pv b1)).put (some 129) (vC)).put (some 130) (.slice (some ⟨wC.heap.size, 0, none⟩) 4 4)).put (some 131) (.bool true)).put (some 132) (.bool false)) (.tmp 132) = .bool false := by rw [Act.eval_put_same _ _ _ (by (repeat rw [Act.size_put]); omega)]
          have ec : ∀ v, Act.eval ((((((((((((a0.put (some 121) (pv b1)).put (some 122) (.slice (some ⟨W0.heap.size, 0, none⟩) 3 3)).put (some 124) (.slice (some ⟨W0.heap.size + 1, 0, none⟩) 4 4)).put (some 123) (vA)).put (some 125) (.bool true)).put (some 126) (.bool false)).put (some 127) (.bool false)).put (some 128) (pv b1)).put (some 129) (vC)).put (some 130) (.slice (some ⟨wC.heap.size, 0, none⟩) 4 4)).put (some 131) (.bool true)).put (some 132) (.bool false)) (.const v) = v := fun _ => rfl
          have ef : ∀ f, Act.eval ((((((((((((a0.put (some 121) (pv b1)).put (some 122) (.slice (some ⟨W0.heap.size, 0, none⟩) 3 3)).put (some 124) (.slice (some ⟨W0.heap.size + 1, 0, none⟩) 4 4)).put (some 123) (vA)).put (some 125) (.bool true)).put (some 126) (.bool false)).put (some 127) (.bool false)).put (some 128) (pv b1)).put (some 129) (vC)).put (some 130) (.slice (some ⟨wC.heap.size, 0, none⟩) 4 4)).put (some 131) (.bool true)).put (some 132) (.bool false)) (.func f) = .func (.func f) #[] #[] := fun _ => rfl
          generalize Act.eval ((((((((((((a0.put (some 121) (pv b1)).put (some 122) (.slice (some ⟨W0.heap.size, 0, none⟩) 3 3)).put (some 124) (.slice (some ⟨W0.heap.size + 1, 0, none⟩) 4 4)).put (some 123) (vA)).put (some 125) (.bool true)).put (some 126) (.bool false)).put (some 127) (.bool false)).put (some 128) (pv b1)).put (some 129) (vC)).put (some 130) (.slice (some ⟨wC.heap.size, 0, none⟩) 4 4)).put (some 131) (.bool true)).put (some 132) (.bool false)) = ρ at *
          simp only [List.getElem_toArray, List.getElem_cons_zero, List.getElem_cons_succ]
          go_simp
        refine wpAnyH_done (by kernel_rfl) ?_ _
        subst hA
        simp only [Act.put, List.setIfInBounds_toArray, List.set_cons_zero, List.set_cons_succ]
        go_wp2_with fail
        go_meet
        exact ⟨rfl, hKD⟩
      refine any_value (i := 9) (d := some 130) (v := .slice (some ⟨wB.heap.size, 0, none⟩) 4 4) (w' := wB.alloc oC) rfl rfl (wanted_guard (j := 6) (d := 127) (want := false) rfl rfl (by rw [tmp_put_ne _ _ _ _ (by decide), tmp_put_same _ _ _ (by (repeat rw [Act.size_put]); omega)])) ?_ ?_ AllReadyH.nil
      · skip
        have ec : ∀ v, Act.eval ((((((((a0.put (some 121) (pv b1)).put (some 122) (.slice (some ⟨W0.heap.size, 0, none⟩) 3 3)).put (some 124) (.slice (some ⟨W0.heap.size + 1, 0, none⟩) 4 4)).put (some 123) (vA)).put (some 125) (.bool true)).put (some 126) (.bool false)).put (some 127) (.bool false)).put (some 128) (pv b1)) (.const v) = v := fun _ => rfl
        have ef : ∀ f, Act.eval ((((((((a0.put (some 121) (pv b1)).put (some 122) (.slice (some ⟨W0.heap.size, 0, none⟩) 3 3)).put (some 124) (.slice (some ⟨W0.heap.size + 1, 0, none⟩) 4 4)).put (some 123) (vA)).put (some 125) (.bool true)).put (some 126) (.bool false)).put (some 127) (.bool false)).put (some 128) (pv b1)) (.func f) = .func (.func f) #[] #[] := fun _ => rfl
        generalize Act.eval ((((((((a0.put (some 121) (pv b1)).put (some 122) (.slice (some ⟨W0.heap.size, 0, none⟩) 3 3)).put (some 124) (.slice (some ⟨W0.heap.size + 1, 0, none⟩) 4 4)).put (some 123) (vA)).put (some 125) (.bool true)).put (some 126) (.bool false)).put (some 127) (.bool false)).put (some 128) (pv b1)) = ρ at *
        simp only [List.getElem_toArray, List.getElem_cons_zero, List.getElem_cons_succ]
        have hmk := make4
        go_simp
      refine wpAnyH_ready (rs := [8]) (by kernel_rfl) (by simp) ?_
      refine any_enter (i := 8) (d := some 129) (f := 20) (args := #[pv b1, .slice none 0 0]) (w' := wB.alloc oC) rfl rfl (wanted_guard (j := 6) (d := 127) (want := false) rfl rfl (by rw [tmp_put_ne _ _ _ _ (by decide), tmp_put_ne _ _ _ _ (by decide), tmp_put_same _ _ _ (by (repeat rw [Act.size_put]); omega)])) ?_ ?_ AllReadyH.nil
      · skip
        have e128 : Act.eval (((((((((a0.put (some 121) (pv b1)).put (some 122) (.slice (some ⟨W0.heap.size, 0, none⟩) 3 3)).put (some 124) (.slice (some ⟨W0.heap.size + 1, 0, none⟩) 4 4)).put (some 123) (vA)).put (some 125) (.bool true)).put (some 126) (.bool false)).put (some 127) (.bool false)).put (some 128) (pv b1)).put (some 130) (.slice (some ⟨wB.heap.size, 0, none⟩) 4 4)) (.tmp 128) = pv b1 := by rw [Act.eval_put_ne _ _ _ _ (by decide), Act.eval_put_same _ _ _ (by (repeat rw [Act.size_put]); omega)]
        have ec : ∀ v, Act.eval (((((((((a0.put (some 121) (pv b1)).put (some 122) (.slice (some ⟨W0.heap.size, 0, none⟩) 3 3)).put (some 124) (.slice (some ⟨W0.heap.size + 1, 0, none⟩) 4 4)).put (some 123) (vA)).put (some 125) (.bool true)).put (some 126) (.bool false)).put (some 127) (.bool false)).put (some 128) (pv b1)).put (some 130) (.slice (some ⟨wB.heap.size, 0, none⟩) 4 4)) (.const v) = v := fun _ => rfl
        have ef : ∀ f, Act.eval (((((((((a0.put (some 121) (pv b1)).put (some 122) (.slice (some ⟨W0.heap.size, 0, none⟩) 3 3)).put (some 124) (.slice (some ⟨W0.heap.size + 1, 0, none⟩) 4 4)).put (some 123) (vA)).put (some 125) (.bool true)).put (some 126) (.bool false)).put (some 127) (.bool false)).put (some 128) (pv b1)).put (some 130) (.slice (some ⟨wB.heap.size, 0, none⟩) 4 4)) (.func f) = .func (.func f) #[] #[] := fun _ => rfl
        generalize Act.eval (((((((((a0.put (some 121) (pv b1)).put (some 122) (.slice (some ⟨W0.heap.size, 0, none⟩) 3 3)).put (some 124) (.slice (some ⟨W0.heap.size + 1, 0, none⟩) 4 4)).put (some 123) (vA)).put (some 125) (.bool true)).put (some 126) (.bool false)).put (some 127) (.bool false)).put (some 128) (pv b1)).put (some 130) (.slice (some ⟨wB.heap.size, 0, none⟩) 4 4)) = ρ at *
        simp only [List.getElem_toArray, List.getElem_cons_zero, List.getElem_cons_succ]
        go_simp
      refine (img5 wB hKB).mono ?_
      rintro e wC ⟨vC, rfl, hSC, hLC, hKC⟩
      refine ⟨vC, rfl, ?_⟩
      refine wpAnyH_ready (rs := [10]) (by kernel_rfl) (by simp) ?_
      refine any_enter (i := 10) (d := some 131) (f := 19) (args := #[vC, .slice (some ⟨wB.heap.size, 0, none⟩) 4 4]) (w' := wC) rfl rfl (wanted_guard (j := 6) (d := 127) (want := false) rfl rfl (by rw [tmp_put_ne _ _ _ _ (by decide), tmp_put_ne _ _ _ _ (by decide), tmp_put_ne _ _ _ _ (by decide), tmp_put_same _ _ _ (by (repeat rw [Act.size_put]); omega)])) ?_ ?_ AllReadyH.nil
      · skip
        have e129 : Act.eval ((((((((((a0.put (some 121) (pv b1)).put (some 122) (.slice (some ⟨W0.heap.size, 0, none⟩) 3 3)).put (some 124) (.slice (some ⟨W0.heap.size + 1, 0, none⟩) 4 4)).put (some 123) (vA)).put (some 125) (.bool true)).put (some 126) (.bool false)).put (some 127) (.bool false)).put (some 128) (pv b1)).put (some 130) (.slice (some ⟨wB.heap.size, 0, none⟩) 4 4)).put (some 129) (vC)) (.tmp 129) = vC := by rw [Act.eval_put_same _ _ _ (by (repeat rw [Act.size_put]); omega)]
        have e130 : Act.eval ((((((((((a0.put (some 121) (pv b1)).put (some 122) (.slice (some ⟨W0.heap.size, 0, none⟩) 3 3)).put (some 124) (.slice (some ⟨W0.heap.size + 1, 0, none⟩) 4 4)).put (some 123) (vA)).put (some 125) (.bool true)).put (some 126) (.bool false)).put (some 127) (.bool false)).put (some 128) (pv b1)).put (some 130) (.slice (some ⟨wB.heap.size, 0, none⟩) 4 4)).put (some 129) (vC)) (.tmp 130) = .slice (some ⟨wB.heap.size, 0, none⟩) 4 4 := by rw [Act.eval_put_ne _ _ _ _ (by decide), Act.eval_put_same _ _ _ (by (repeat rw [Act.size_put]); omega)]
        have ec : ∀ v, Act.eval ((((((((((a0.put (some 121) (pv b1)).put (some 122) (.slice (some ⟨W0.heap.size, 0, none⟩) 3 3)).put (some 124) (.slice (some ⟨W0.heap.size + 1, 0, none⟩) 4 4)).put (some 123) (vA)).put (some 125) (.bool true)).put (some 126) (.bool false)).put (some 127) (.bool false)).put (some 128) (pv b1)).put (some 130) (.slice (some ⟨wB.heap.size, 0, none⟩) 4 4)).put (some 129) (vC)) (.const v) = v := fun _ => rfl
        have ef : ∀ f, Act.eval ((((((((((a0.put (some 121) (pv b1)).put (some 122) (.slice (some ⟨W0.heap.size, 0, none⟩) 3 3)).put (some 124) (.slice (some ⟨W0.heap.size + 1, 0, none⟩) 4 4)).put (some 123) (vA)).put (some 125) (.bool true)).put (some 126) (.bool false)).put (some 127) (.bool false)).put (some 128) (pv b1)).put (some 130) (.slice (some ⟨wB.heap.size, 0, none⟩) 4 4)).put (some 129) (vC)) (.func f) = .func (.func f) #[] #[] := fun _ => rfl
        generalize Act.eval ((((((((((a0.put (some 121) (pv b1)).put (some 122) (.slice (some ⟨W0.heap.size, 0, none⟩) 3 3)).put (some 124) (.slice (some ⟨W0.heap.size + 1, 0, none⟩) 4 4)).put (some 123) (vA)).put (some 125) (.bool true)).put (some 126) (.bool false)).put (some 127) (.bool false)).put (some 128) (pv b1)).put (some 130) (.slice (some ⟨wB.heap.size, 0, none⟩) 4 4)).put (some 129) (vC)) = ρ at *
        simp only [List.getElem_toArray, List.getElem_cons_zero, List.getElem_cons_succ]
        go_simp
      refine (tru4 wC hSC hLC hKC).mono ?_
      rintro e wD ⟨rfl, hKD⟩
      refine ⟨_, rfl, ?_⟩
      refine any_take (i := 11) (d := some 132) (v := .bool false) rfl rfl (by kernel_rfl) (by kernel_rfl) (by kernel_rfl) (fun _ _ _ h => h) (wanted_guard (j := 6) (d := 127) (want := false) rfl rfl (by rw [tmp_put_ne _ _ _ _ (by decide), tmp_put_ne _ _ _ _ (by decide), tmp_put_ne _ _ _ _ (by decide), tmp_put_ne _ _ _ _ (by decide), tmp_put_same _ _ _ (by (repeat rw [Act.size_put]); omega)])) ?_ ?_
      · intro w9
        have e131 : Act.eval (((((((((((a0.put (some 121) (pv b1)).put (some 122) (.slice (some ⟨W0.heap.size, 0, none⟩) 3 3)).put (some 124) (.slice (some ⟨W0.heap.size + 1, 0, none⟩) 4 4)).put (some 123) (vA)).put (some 125) (.bool true)).put (some 126) (.bool false)).put (some 127) (.bool false)).put (some 128) (pv b1)).put (some 130) (.slice (some ⟨wB.heap.size, 0, none⟩) 4 4)).put (some 129) (vC)).put (some 131) (.bool true)) (.tmp 131) = .bool true := by rw [Act.eval_put_same _ _ _ (by (repeat rw [Act.size_put]); omega)]
        have ec : ∀ v, Act.eval (((((((((((a0.put (some 121) (pv b1)).put (some 122) (.slice (some ⟨W0.heap.size, 0, none⟩) 3 3)).put (some 124) (.slice (some ⟨W0.heap.size + 1, 0, none⟩) 4 4)).put (some 123) (vA)).put (some 125) (.bool true)).put (some 126) (.bool false)).put (some 127) (.bool false)).put (some 128) (pv b1)).put (some 130) (.slice (some ⟨wB.heap.size, 0, none⟩) 4 4)).put (some 129) (vC)).put (some 131) (.bool true)) (.const v) = v := fun _ => rfl
        have ef : ∀ f, Act.eval (((((((((((a0.put (some 121) (pv b1)).put (some 122) (.slice (some ⟨W0.heap.size, 0, none⟩) 3 3)).put (some 124) (.slice (some ⟨W0.heap.size + 1, 0, none⟩) 4 4)).put (some 123) (vA)).put (some 125) (.bool true)).put (some 126) (.bool false)).put (some 127) (.bool false)).put (some 128) (pv b1)).put (some 130) (.slice (some ⟨wB.heap.size, 0, none⟩) 4 4)).put (some 129) (vC)).put (some 131) (.bool true)) (.func f) = .func (.func f) #[] #[] := fun _ => rfl
        generalize Act.eval (((((((((((a0.put (some 121) (pv b1)).put (some 122) (.slice (some ⟨W0.heap.size, 0, none⟩) 3 3)).put (some 124) (.slice (some ⟨W0.heap.size + 1, 0, none⟩) 4 4)).put (some 123) (vA)).put (some 125) (.bool true)).put (some 126) (.bool false)).put (some 127) (.bool false)).put (some 128) (pv b1)).put (some 130) (.slice (some ⟨wB.heap.size, 0, none⟩) 4 4)).put (some 129) (vC)).put (some 131) (.bool true)) = ρ at *
        simp only [List.getElem_toArray, List.getElem_cons_zero, List.getElem_cons_succ]
        go_simp
      refine any_take (i := 12) (d := some 133) (v := .bool false) rfl rfl (by kernel_rfl) (by kernel_rfl) (by kernel_rfl) (fun _ _ _ h => h) (by rfl) ?_ ?_
      · intro w9
        have e127 : Act.eval ((((((((((((a0.put (some 121) (pv b1)).put (some 122) (.slice (some ⟨W0.heap.size, 0, none⟩) 3 3)).put (some 124) (.slice (some ⟨W0.heap.size + 1, 0, none⟩) 4 4)).put (some 123) (vA)).put (some 125) (.bool true)).put (some 126) (.bool false)).put (some 127) (.bool false)).put (some 128) (pv b1)).put (some 130) (.slice (some ⟨wB.heap.size, 0, none⟩) 4 4)).put (some 129) (vC)).put (some 131) (.bool true)).put (some 132) (.bool false)) (.tmp 127) = .bool false := by rw [Act.eval_put_ne _ _ _ _ (by decide), Act.eval_put_ne _ _ _ _ (by decide), Act.eval_put_ne _ _ _ _ (by decide), Act.eval_put_ne _ _ _ _ (by decide), Act.eval_put_ne _ _ _ _ (by decide), Act.eval_put_same _ _ _ (by (repeat rw [Act.size_put]); omega)]
        have e132 : Act.eval ((((((((((((a0.put (some 121) (pv b1)).put (some 122) (.slice (some ⟨W0.heap.size, 0, none⟩) 3 3)).put (some 124) (.slice (some ⟨W0.heap.size + 1, 0, none⟩) 4 4)).put (some 123) (vA)).put (some 125) (.bool true)).put (some 126) (.bool false)).put (some 127) (.bool false)).put (some 128) (pv b1)).put (some 130) (.slice (some ⟨wB.heap.size, 0, none⟩) 4 4)).put (some 129) (vC)).put (some 131) (.bool true)).put (some 132) (.bool false)) (.tmp 132) = .bool false := by rw [Act.eval_put_same _ _ _ (by (repeat rw [Act.size_put]); omega)]
        have ec : ∀ v, Act.eval ((((((((((((a0.put (some 121) (pv b1)).put (some 122) (.slice (some ⟨W0.heap.size, 0, none⟩) 3 3)).put (some 124) (.slice (some ⟨W0.heap.size + 1, 0, none⟩) 4 4)).put (some 123) (vA)).put (some 125) (.bool true)).put (some 126) (.bool false)).put (some 127) (.bool false)).put (some 128) (pv b1)).put (some 130) (.slice (some ⟨wB.heap.size, 0, none⟩) 4 4)).put (some 129) (vC)).put (some 131) (.bool true)).put (some 132) (.bool false)) (.const v) = v := fun _ => rfl
        have ef : ∀ f, Act.eval ((((((((((((a0.put (some 121) (pv b1)).put (some 122) (.slice (some ⟨W0.heap.size, 0, none⟩) 3 3)).put (some 124) (.slice (some ⟨W0.heap.size + 1, 0, none⟩) 4 4)).put (some 123) (vA)).put (some 125) (.bool true)).put (some 126) (.bool false)).put (some 127) (.bool false)).put (some 128) (pv b1)).put (some 130) (.slice (some ⟨wB.heap.size, 0, none⟩) 4 4)).put (some 129) (vC)).put (some 131) (.bool true)).put (some 132) (.bool false)) (.func f) = .func (.func f) #[] #[] := fun _ => rfl
        generalize Act.eval ((((((((((((a0.put (some 121) (pv b1)).put (some 122) (.slice (some ⟨W0.heap.size, 0, none⟩) 3 3)).put (some 124) (.slice (some ⟨W0.heap.size + 1, 0, none⟩) 4 4)).put (some 123) (vA)).put (some 125) (.bool true)).put (some 126) (.bool false)).put (some 127) (.bool false)).put (some 128) (pv b1)).put (some 130) (.slice (some ⟨wB.heap.size, 0, none⟩) 4 4)).put (some 129) (vC)).put (some 131) (.bool true)).put (some 132) (.bool false)) = ρ at *
        simp only [List.getElem_toArray, List.getElem_cons_zero, List.getElem_cons_succ]
        go_simp
      refine wpAnyH_done (by kernel_rfl) ?_ _
      subst hA
      simp only [Act.put, List.setIfInBounds_toArray, List.set_cons_zero, List.set_cons_succ]
      go_wp2_with fail
      go_meet
      exact ⟨rfl, hKD⟩
    refine any_value (i := 3) (d := some 124) (v := .slice (some ⟨W0.heap.size, 0, none⟩) 4 4) (w' := W0.alloc oB) rfl rfl (by rfl) ?_ ?_ AllReadyH.nil
    · skip
      have ec : ∀ v, Act.eval (a0.put (some 121) (pv b1)) (.const v) = v := fun _ => rfl
      have ef : ∀ f, Act.eval (a0.put (some 121) (pv b1)) (.func f) = .func (.func f) #[] #[] := fun _ => rfl
      generalize Act.eval (a0.put (some 121) (pv b1)) = ρ at *
      simp only [List.getElem_toArray, List.getElem_cons_zero, List.getElem_cons_succ]
      go_simp
    refine wpAnyH_ready (rs := [1]) (by kernel_rfl) (by simp) ?_
    refine any_value (i := 1) (d := some 122) (v := .slice (some ⟨W0.heap.size + 1, 0, none⟩) 3 3) (w' := (W0.alloc oB).alloc oA) rfl rfl (by rfl) ?_ ?_ AllReadyH.nil
    · skip
      have ec : ∀ v, Act.eval ((a0.put (some 121) (pv b1)).put (some 124) (.slice (some ⟨W0.heap.size, 0, none⟩) 4 4)) (.const v) = v := fun _ => rfl
      have ef : ∀ f, Act.eval ((a0.put (some 121) (pv b1)).put (some 124) (.slice (some ⟨W0.heap.size, 0, none⟩) 4 4)) (.func f) = .func (.func f) #[] #[] := fun _ => rfl
      generalize Act.eval ((a0.put (some 121) (pv b1)).put (some 124) (.slice (some ⟨W0.heap.size, 0, none⟩) 4 4)) = ρ at *
      simp only [List.getElem_toArray, List.getElem_cons_zero, List.getElem_cons_succ]
      go_simp
    refine wpAnyH_ready (rs := [2]) (by kernel_rfl) (by simp) ?_
    refine any_enter (i := 2) (d := some 123) (f := 20) (args := #[pv b1, .slice (some ⟨W0.heap.size + 1, 0, none⟩) 3 3]) (w' := (W0.alloc oB).alloc oA) rfl rfl (by rfl) ?_ ?_ AllReadyH.nil
    · skip
      have e121 : Act.eval (((a0.put (some 121) (pv b1)).put (some 124) (.slice (some ⟨W0.heap.size, 0, none⟩) 4 4)).put (some 122) (.slice (some ⟨W0.heap.size + 1, 0, none⟩) 3 3)) (.tmp 121) = pv b1 := by rw [Act.eval_put_ne _ _ _ _ (by decide), Act.eval_put_ne _ _ _ _ (by decide), Act.eval_put_same _ _ _ (by (repeat rw [Act.size_put]); omega)]
      have e122 : Act.eval (((a0.put (some 121) (pv b1)).put (some 124) (.slice (some ⟨W0.heap.size, 0, none⟩) 4 4)).put (some 122) (.slice (some ⟨W0.heap.size + 1, 0, none⟩) 3 3)) (.tmp 122) = .slice (some ⟨W0.heap.size + 1, 0, none⟩) 3 3 := by rw [Act.eval_put_same _ _ _ (by (repeat rw [Act.size_put]); omega)]
      have ec : ∀ v, Act.eval (((a0.put (some 121) (pv b1)).put (some 124) (.slice (some ⟨W0.heap.size, 0, none⟩) 4 4)).put (some 122) (.slice (some ⟨W0.heap.size + 1, 0, none⟩) 3 3)) (.const v) = v := fun _ => rfl
      have ef : ∀ f, Act.eval (((a0.put (some 121) (pv b1)).put (some 124) (.slice (some ⟨W0.heap.size, 0, none⟩) 4 4)).put (some 122) (.slice (some ⟨W0.heap.size + 1, 0, none⟩) 3 3)) (.func f) = .func (.func f) #[] #[] := fun _ => rfl
      generalize Act.eval (((a0.put (some 121) (pv b1)).put (some 124) (.slice (some ⟨W0.heap.size, 0, none⟩) 4 4)).put (some 122) (.slice (some ⟨W0.heap.size + 1, 0, none⟩) 3 3)) = ρ at *
      simp only [List.getElem_toArray, List.getElem_cons_zero, List.getElem_cons_succ]
      go_simp
    refine (img3 W0 hK).mono ?_
    rintro e wA ⟨vA, rfl, hSA, hLA, hKA⟩
    refine ⟨vA, rfl, ?_⟩
    refine wpAnyH_ready (rs := [4]) (by kernel_rfl) (by simp) ?_
    refine any_enter (i := 4) (d := some 125) (f := 19) (args := #[vA, .slice (some ⟨W0.heap.size, 0, none⟩) 4 4]) (w' := wA) rfl rfl (by rfl) ?_ ?_ AllReadyH.nil
    · skip
      have e123 : Act.eval ((((a0.put (some 121) (pv b1)).put (some 124) (.slice (some ⟨W0.heap.size, 0, none⟩) 4 4)).put (some 122) (.slice (some ⟨W0.heap.size + 1, 0, none⟩) 3 3)).put (some 123) (vA)) (.tmp 123) = vA := by rw [Act.eval_put_same _ _ _ (by (repeat rw [Act.size_put]); omega)]
      have e124 : Act.eval ((((a0.put (some 121) (pv b1)).put (some 124) (.slice (some ⟨W0.heap.size, 0, none⟩) 4 4)).put (some 122) (.slice (some ⟨W0.heap.size + 1, 0, none⟩) 3 3)).put (some 123) (vA)) (.tmp 124) = .slice (some ⟨W0.heap.size, 0, none⟩) 4 4 := by rw [Act.eval_put_ne _ _ _ _ (by decide), Act.eval_put_ne _ _ _ _ (by decide), Act.eval_put_same _ _ _ (by (repeat rw [Act.size_put]); omega)]
      have ec : ∀ v, Act.eval ((((a0.put (some 121) (pv b1)).put (some 124) (.slice (some ⟨W0.heap.size, 0, none⟩) 4 4)).put (some 122) (.slice (some ⟨W0.heap.size + 1, 0, none⟩) 3 3)).put (some 123) (vA)) (.const v) = v := fun _ => rfl
      have ef : ∀ f, Act.eval ((((a0.put (some 121) (pv b1)).put (some 124) (.slice (some ⟨W0.heap.size, 0, none⟩) 4 4)).put (some 122) (.slice (some ⟨W0.heap.size + 1, 0, none⟩) 3 3)).put (some 123) (vA)) (.func f) = .func (.func f) #[] #[] := fun _ => rfl
      generalize Act.eval ((((a0.put (some 121) (pv b1)).put (some 124) (.slice (some ⟨W0.heap.size, 0, none⟩) 4 4)).put (some 122) (.slice (some ⟨W0.heap.size + 1, 0, none⟩) 3 3)).put (some 123) (vA)) = ρ at *
      simp only [List.getElem_toArray, List.getElem_cons_zero, List.getElem_cons_succ]
      go_simp
    refine (tru2 wA hSA hLA hKA).mono ?_
    rintro e wB ⟨rfl, hKB⟩
    refine ⟨_, rfl, ?_⟩
    refine any_take (i := 5) (d := some 126) (v := .bool false) rfl rfl (by kernel_rfl) (by kernel_rfl) (by kernel_rfl) (fun _ _ _ h => h) (by rfl) ?_ ?_
    · intro w9
      have e125 : Act.eval (((((a0.put (some 121) (pv b1)).put (some 124) (.slice (some ⟨W0.heap.size, 0, none⟩) 4 4)).put (some 122) (.slice (some ⟨W0.heap.size + 1, 0, none⟩) 3 3)).put (some 123) (vA)).put (some 125) (.bool true)) (.tmp 125) = .bool true := by rw [Act.eval_put_same _ _ _ (by (repeat rw [Act.size_put]); omega)]
      have ec : ∀ v, Act.eval (((((a0.put (some 121) (pv b1)).put (some 124) (.slice (some ⟨W0.heap.size, 0, none⟩) 4 4)).put (some 122) (.slice (some ⟨W0.heap.size + 1, 0, none⟩) 3 3)).put (some 123) (vA)).put (some 125) (.bool true)) (.const v) = v := fun _ => rfl
      have ef : ∀ f, Act.eval (((((a0.put (some 121) (pv b1)).put (some 124) (.slice (some ⟨W0.heap.size, 0, none⟩) 4 4)).put (some 122) (.slice (some ⟨W0.heap.size + 1, 0, none⟩) 3 3)).put (some 123) (vA)).put (some 125) (.bool true)) (.func f) = .func (.func f) #[] #[] := fun _ => rfl
      generalize Act.eval (((((a0.put (some 121) (pv b1)).put (some 124) (.slice (some ⟨W0.heap.size, 0, none⟩) 4 4)).put (some 122) (.slice (some ⟨W0.heap.size + 1, 0, none⟩) 3 3)).put (some 123) (vA)).put (some 125) (.bool true)) = ρ at *
      simp only [List.getElem_toArray, List.getElem_cons_zero, List.getElem_cons_succ]
      go_simp
    refine any_take (i := 6) (d := some 127) (v := .bool false) rfl rfl (by kernel_rfl) (by kernel_rfl) (by kernel_rfl) (fun _ _ _ h => h) (by rfl) ?_ ?_
    · intro w9
      have e126 : Act.eval ((((((a0.put (some 121) (pv b1)).put (some 124) (.slice (some ⟨W0.heap.size, 0, none⟩) 4 4)).put (some 122) (.slice (some ⟨W0.heap.size + 1, 0, none⟩) 3 3)).put (some 123) (vA)).put (some 125) (.bool true)).put (some 126) (.bool false)) (.tmp 126) = .bool false := by rw [Act.eval_put_same _ _ _ (by (repeat rw [Act.size_put]); omega)]
      have ec : ∀ v, Act.eval ((((((a0.put (some 121) (pv b1)).put (some 124) (.slice (some ⟨W0.heap.size, 0, none⟩) 4 4)).put (some 122) (.slice (some ⟨W0.heap.size + 1, 0, none⟩) 3 3)).put (some 123) (vA)).put (some 125) (.bool true)).put (some 126) (.bool false)) (.const v) = v := fun _ => rfl
      have ef : ∀ f, Act.eval ((((((a0.put (some 121) (pv b1)).put (some 124) (.slice (some ⟨W0.heap.size, 0, none⟩) 4 4)).put (some 122) (.slice (some ⟨W0.heap.size + 1, 0, none⟩) 3 3)).put (some 123) (vA)).put (some 125) (.bool true)).put (some 126) (.bool false)) (.func f) = .func (.func f) #[] #[] := fun _ => rfl
      generalize Act.eval ((((((a0.put (some 121) (pv b1)).put (some 124) (.slice (some ⟨W0.heap.size, 0, none⟩) 4 4)).put (some 122) (.slice (some ⟨W0.heap.size + 1, 0, none⟩) 3 3)).put (some 123) (vA)).put (some 125) (.bool true)).put (some 126) (.bool false)) = ρ at *
      simp only [List.getElem_toArray, List.getElem_cons_zero, List.getElem_cons_succ]
      go_simp
    refine any_take (i := 7) (d := some 128) (v := pv b1) rfl rfl (by kernel_rfl) (by kernel_rfl) (by kernel_rfl) (fun _ _ _ h => h) (wanted_guard (j := 6) (d := 127) (want := false) rfl rfl (by rw [tmp_put_same _ _ _ (by (repeat rw [Act.size_put]); omega)])) ?_ ?_
    · intro w9
      have e1 : Act.eval (((((((a0.put (some 121) (pv b1)).put (some 124) (.slice (some ⟨W0.heap.size, 0, none⟩) 4 4)).put (some 122) (.slice (some ⟨W0.heap.size + 1, 0, none⟩) 3 3)).put (some 123) (vA)).put (some 125) (.bool true)).put (some 126) (.bool false)).put (some 127) (.bool false)) (.tmp 1) = pv b1 := by rw [Act.eval_put_ne _ _ _ _ (by decide), Act.eval_put_ne _ _ _ _ (by decide), Act.eval_put_ne _ _ _ _ (by decide), Act.eval_put_ne _ _ _ _ (by decide), Act.eval_put_ne _ _ _ _ (by decide), Act.eval_put_ne _ _ _ _ (by decide), Act.eval_put_ne _ _ _ _ (by decide), h1]
      have ec : ∀ v, Act.eval (((((((a0.put (some 121) (pv b1)).put (some 124) (.slice (some ⟨W0.heap.size, 0, none⟩) 4 4)).put (some 122) (.slice (some ⟨W0.heap.size + 1, 0, none⟩) 3 3)).put (some 123) (vA)).put (some 125) (.bool true)).put (some 126) (.bool false)).put (some 127) (.bool false)) (.const v) = v := fun _ => rfl
      have ef : ∀ f, Act.eval (((((((a0.put (some 121) (pv b1)).put (some 124) (.slice (some ⟨W0.heap.size, 0, none⟩) 4 4)).put (some 122) (.slice (some ⟨W0.heap.size + 1, 0, none⟩) 3 3)).put (some 123) (vA)).put (some 125) (.bool true)).put (some 126) (.bool false)).put (some 127) (.bool false)) (.func f) = .func (.func f) #[] #[] := fun _ => rfl
      generalize Act.eval (((((((a0.put (some 121) (pv b1)).put (some 124) (.slice (some ⟨W0.heap.size, 0, none⟩) 4 4)).put (some 122) (.slice (some ⟨W0.heap.size + 1, 0, none⟩) 3 3)).put (some 123) (vA)).put (some 125) (.bool true)).put (some 126) (.bool false)).put (some 127) (.bool false)) = ρ at *
      simp only [List.getElem_toArray, List.getElem_cons_zero, List.getElem_cons_succ]
      go_simp
    refine wpAnyH_ready (rs := [8, 9]) (by kernel_rfl) (by simp) ?_
    refine any_enter (i := 8) (d := some 129) (f := 20) (args := #[pv b1, .slice none 0 0]) (w' := wB) rfl rfl (wanted_guard (j := 6) (d := 127) (want := false) rfl rfl (by rw [tmp_put_ne _ _ _ _ (by decide), tmp_put_same _ _ _ (by (repeat rw [Act.size_put]); omega)])) ?_ ?_ ?_
    · skip
      have e128 : Act.eval ((((((((a0.put (some 121) (pv b1)).put (some 124) (.slice (some ⟨W0.heap.size, 0, none⟩) 4 4)).put (some 122) (.slice (some ⟨W0.heap.size + 1, 0, none⟩) 3 3)).put (some 123) (vA)).put (some 125) (.bool true)).put (some 126) (.bool false)).put (some 127) (.bool false)).put (some 128) (pv b1)) (.tmp 128) = pv b1 := by rw [Act.eval_put_same _ _ _ (by (repeat rw [Act.size_put]); omega)]
      have ec : ∀ v, Act.eval ((((((((a0.put (some 121) (pv b1)).put (some 124) (.slice (some ⟨W0.heap.size, 0, none⟩) 4 4)).put (some 122) (.slice (some ⟨W0.heap.size + 1, 0, none⟩) 3 3)).put (some 123) (vA)).put (some 125) (.bool true)).put (some 126) (.bool false)).put (some 127) (.bool false)).put (some 128) (pv b1)) (.const v) = v := fun _ => rfl
      have ef : ∀ f, Act.eval ((((((((a0.put (some 121) (pv b1)).put (some 124) (.slice (some ⟨W0.heap.size, 0, none⟩) 4 4)).put (some 122) (.slice (some ⟨W0.heap.size + 1, 0, none⟩) 3 3)).put (some 123) (vA)).put (some 125) (.bool true)).put (some 126) (.bool false)).put (some 127) (.bool false)).put (some 128) (pv b1)) (.func f) = .func (.func f) #[] #[] := fun _ => rfl
      generalize Act.eval ((((((((a0.put (some 121) (pv b1)).put (some 124) (.slice (some ⟨W0.heap.size, 0, none⟩) 4 4)).put (some 122) (.slice (some ⟨W0.heap.size + 1, 0, none⟩) 3 3)).put (some 123) (vA)).put (some 125) (.bool true)).put (some 126) (.bool false)).put (some 127) (.bool false)).put (some 128) (pv b1)) = ρ at *
      simp only [List.getElem_toArray, List.getElem_cons_zero, List.getElem_cons_succ]
      go_simp
    · refine (img4 wB hKB).mono ?_
      rintro e wC ⟨vC, rfl, hSC, hKC⟩
      refine ⟨vC, rfl, ?_⟩
      refine wpAnyH_ready (rs := [9]) (by kernel_rfl) (by simp) ?_
      refine any_value (i := 9) (d := some 130) (v := .slice (some ⟨wC.heap.size, 0, none⟩) 4 4) (w' := wC.alloc oC) rfl rfl (wanted_guard (j := 6) (d := 127) (want := false) rfl rfl (by rw [tmp_put_ne _ _ _ _ (by decide), tmp_put_ne _ _ _ _ (by decide), tmp_put_same _ _ _ (by (repeat rw [Act.size_put]); omega)])) ?_ ?_ AllReadyH.nil
      · skip
        have ec : ∀ v, Act.eval (((((((((a0.put (some 121) (pv b1)).put (some 124) (.slice (some ⟨W0.heap.size, 0, none⟩) 4 4)).put (some 122) (.slice (some ⟨W0.heap.size + 1, 0, none⟩) 3 3)).put (some 123) (vA)).put (some 125) (.bool true)).put (some 126) (.bool false)).put (some 127) (.bool false)).put (some 128) (pv b1)).put (some 129) (vC)) (.const v) = v := fun _ => rfl
        have ef : ∀ f, Act.eval (((((((((a0.put (some 121) (pv b1)).put (some 124) (.slice (some ⟨W0.heap.size, 0, none⟩) 4 4)).put (some 122) (.slice (some ⟨W0.heap.size + 1, 0, none⟩) 3 3)).put (some 123) (vA)).put (some 125) (.bool true)).put (some 126) (.bool false)).put (some 127) (.bool false)).put (some 128) (pv b1)).put (some 129) (vC)) (.func f) = .func (.func f) #[] #[] := fun _ => rfl
        generalize Act.eval (((((((((a0.put (some 121) (pv b1)).put (some 124) (.slice (some ⟨W0.heap.size, 0, none⟩) 4 4)).put (some 122) (.slice (some ⟨W0.heap.size + 1, 0, none⟩) 3 3)).put (some 123) (vA)).put (some 125) (.bool true)).put (some 126) (.bool false)).put (some 127) (.bool false)).put (some 128) (pv b1)).put (some 129) (vC)) = ρ at *
        simp only [List.getElem_toArray, List.getElem_cons_zero, List.getElem_cons_succ]
        have hmk := make4
        go_simp
      refine wpAnyH_ready (rs := [10]) (by kernel_rfl) (by simp) ?_
      refine any_enter (i := 10) (d := some 131) (f := 19) (args := #[vC, .slice (some ⟨wC.heap.size, 0, none⟩) 4 4]) (w' := wC.alloc oC) rfl rfl (wanted_guard (j := 6) (d := 127) (want := false) rfl rfl (by rw [tmp_put_ne _ _ _ _ (by decide), tmp_put_ne _ _ _ _ (by decide), tmp_put_ne _ _ _ _ (by decide), tmp_put_same _ _ _ (by (repeat rw [Act.size_put]); omega)])) ?_ ?_ AllReadyH.nil
      · skip
        have e129 : Act.eval ((((((((((a0.put (some 121) (pv b1)).put (some 124) (.slice (some ⟨W0.heap.size, 0, none⟩) 4 4)).put (some 122) (.slice (some ⟨W0.heap.size + 1, 0, none⟩) 3 3)).put (some 123) (vA)).put (some 125) (.bool true)).put (some 126) (.bool false)).put (some 127) (.bool false)).put (some 128) (pv b1)).put (some 129) (vC)).put (some 130) (.slice (some ⟨wC.heap.size, 0, none⟩) 4 4)) (.tmp 129) = vC := by rw [Act.eval_put_ne _ _ _ _ (by decide), Act.eval_put_same _ _ _ (by (repeat rw [Act.size_put]); omega)]
        have e130 : Act.eval ((((((((((a0.put (some 121) (pv b1)).put (some 124) (.slice (some ⟨W0.heap.size, 0, none⟩) 4 4)).put (some 122) (.slice (some ⟨W0.heap.size + 1, 0, none⟩) 3 3)).put (some 123) (vA)).put (some 125) (.bool true)).put (some 126) (.bool false)).put (some 127) (.bool false)).put (some 128) (pv b1)).put (some 129) (vC)).put (some 130) (.slice (some ⟨wC.heap.size, 0, none⟩) 4 4)) (.tmp 130) = .slice (some ⟨wC.heap.size, 0, none⟩) 4 4 := by rw [Act.eval_put_same _ _ _ (by (repeat rw [Act.size_put]); omega)]
        have ec : ∀ v, Act.eval ((((((((((a0.put (some 121) (pv b1)).put (some 124) (.slice (some ⟨W0.heap.size, 0, none⟩) 4 4)).put (some 122) (.slice (some ⟨W0.heap.size + 1, 0, none⟩) 3 3)).put (some 123) (vA)).put (some 125) (.bool true)).put (some 126) (.bool false)).put (some 127) (.bool false)).put (some 128) (pv b1)).put (some 129) (vC)).put (some 130) (.slice (some ⟨wC.heap.size, 0, none⟩) 4 4)) (.const v) = v := fun _ => rfl
        have ef : ∀ f, Act.eval ((((((((((a0.put (some 121) (pv b1)).put (some 124) (.slice (some ⟨W0.heap.size, 0, none⟩) 4 4)).put (some 122) (.slice (some ⟨W0.heap.size + 1, 0, none⟩) 3 3)).put (some 123) (vA)).put (some 125) (.bool true)).put (some 126) (.bool false)).put (some 127) (.bool false)).put (some 128) (pv b1)).put (some 129) (vC)).put (some 130) (.slice (some ⟨wC.heap.size, 0, none⟩) 4 4)) (.func f) = .func (.func f) #[] #[] := fun _ => rfl
        generalize Act.eval ((((((((((a0.put (some 121) (pv b1)).put (some 124) (.slice (some ⟨W0.heap.size, 0, none⟩) 4 4)).put (some 122) (.slice (some ⟨W0.heap.size + 1, 0, none⟩) 3 3)).put (some 123) (vA)).put (some 125) (.bool true)).put (some 126) (.bool false)).put (some 127) (.bool false)).put (some 128) (pv b1)).put (some 129) (vC)).put (some 130) (.slice (some ⟨wC.heap.size, 0, none⟩) 4 4)) = ρ at *
        simp only [List.getElem_toArray, List.getElem_cons_zero, List.getElem_cons_succ]
        go_simp
      refine (tru3 wC hSC hKC).mono ?_
      rintro e wD ⟨rfl, hKD⟩
      refine ⟨_, rfl, ?_⟩
      refine any_take (i := 11) (d := some 132) (v := .bool false) rfl rfl (by kernel_rfl) (by kernel_rfl) (by kernel_rfl) (fun _ _ _ h => h) (wanted_guard (j := 6) (d := 127) (want := false) rfl rfl (by rw [tmp_put_ne _ _ _ _ (by decide), tmp_put_ne _ _ _ _ (by decide), tmp_put_ne _ _ _ _ (by decide), tmp_put_ne _ _ _ _ (by decide), tmp_put_same _ _ _ (by (repeat rw [Act.size_put]); omega)])) ?_ ?_
      · intro w9
        have e131 : Act.eval (((((((((((a0.put (some 121) (pv b1)).put (some 124) (.slice (some ⟨W0.heap.size, 0, none⟩) 4 4)).put (some 122) (.slice (some ⟨W0.heap.size + 1, 0, none⟩) 3 3)).put (some 123) (vA)).put (some 125) (.bool true)).put (some 126) (.bool false)).put (some 127) (.bool false)).put (some 128) (pv b1)).put (some 129) (vC)).put (some 130) (.slice (some ⟨wC.heap.size, 0, none⟩) 4 4)).put (some 131) (.bool true)) (.tmp 131) = .bool true := by rw [Act.eval_put_same _ _ _ (by (repeat rw [Act.size_put]); omega)]
        have ec : ∀ v, Act.eval (((((((((((a0.put (some 121) (pv b1)).put (some 124) (.slice (some ⟨W0.heap.size, 0, none⟩) 4 4)).put (some 122) (.slice (some ⟨W0.heap.size + 1, 0, none⟩) 3 3)).put (some 123) (vA)).put (some 125) (.bool true)).put (some 126) (.bool false)).put (some 127) (.bool false)).put (some 128) (pv b1)).put (some 129) (vC)).put (some 130) (.slice (some ⟨wC.heap.size, 0, none⟩) 4 4)).put (some 131) (.bool true)) (.const v) = v := fun _ => rfl
        have ef : ∀ f, Act.eval (((((((((((a0.put (some 121) (pv b1)).put (some 124) (.slice (some ⟨W0.heap.size, 0, none⟩) 4 4)).put (some 122) (.slice (some ⟨W0.heap.size + 1, 0, none⟩) 3 3)).put (some 123) (vA)).put (some 125) (.bool true)).put (some 126) (.bool false)).put (some 127) (.bool false)).put (some 128) (pv b1)).put (some 129) (vC)).put (some 130) (.slice (some ⟨wC.heap.size, 0, none⟩) 4 4)).put (some 131) (.bool true)) (.func f) = .func (.func f) #[] #[] := fun _ => rfl
        generalize Act.eval (((((((((((a0.put (some 121) (pv b1)).put (some 124) (.slice (some ⟨W0.heap.size, 0, none⟩) 4 4)).put (some 122) (.slice (some ⟨W0.heap.size + 1, 0, none⟩) 3 3)).put (some 123) (vA)).put (some 125) (.bool true)).put (some 126) (.bool false)).put (some 127) (.bool false)).put (some 128) (pv b1)).put (some 129) (vC)).put (some 130) (.slice (some ⟨wC.heap.size, 0, none⟩) 4 4)).put (some 131) (.bool true)) = ρ at *
        simp only [List.getElem_toArray, List.getElem_cons_zero, List.getElem_cons_succ]
        go_simp
      refine any_take (i := 12) (d := some 133) (v := .bool false) rfl rfl (by kernel_rfl) (by kernel_rfl) (by kernel_rfl) (fun _ _ _ h => h) (by rfl) ?_ ?_
      · intro w9
        have e127 : Act.eval ((((((((((((a0.put (some 121) (pv b1)).put (some 124) (.slice (some ⟨W0.heap.size, 0, none⟩) 4 4)).put (some 122) (.slice (some ⟨W0.heap.size + 1, 0, none⟩) 3 3)).put (some 123) (vA)).put (some 125) (.bool true)).put (some 126) (.bool false)).put (some 127) (.bool false)).put (some 128) (pv b1)).put (some 129) (vC)).put (some 130) (.slice (some ⟨wC.heap.size, 0, none⟩) 4 4)).put (some 131) (.bool true)).put (some 132) (.bool false)) (.tmp 127) = .bool false := by rw [Act.eval_put_ne _ _ _ _ (by decide), Act.eval_put_ne _ _ _ _ (by decide), Act.eval_put_ne _ _ _ _ (by decide), Act.eval_put_ne _ _ _ _ (by decide), Act.eval_put_ne _ _ _ _ (by decide), Act.eval_put_same _ _ _ (by (repeat rw [Act.size_put]); omega)]
        have e132 : Act.eval ((((((((((((a0.put (some 121) (pv b1)).put (some 124) (.slice (some ⟨W0.heap.size, 0, none⟩) 4 4)).put (some 122) (.slice (some ⟨W0.heap.size + 1, 0, none⟩) 3 3)).put (some 123) (vA)).put (some 125) (.bool true)).put (some 126) (.bool false)).put (some 127) (.bool false)).put (some 128) (pv b1)).put (some 129) (vC)).put (some 130) (.slice (some ⟨wC.heap.size, 0, none⟩) 4 4)).put (some 131) (.bool true)).put (some 132) (.bool false)) (.tmp 132) = .bool false := by rw [Act.eval_put_same _ _ _ (by (repeat rw [Act.size_put]); omega)]
        have ec : ∀ v, Act.eval ((((((((((((a0.put (some 121) (pv b1)).put (some 124) (.slice (some ⟨W0.heap.size, 0, none⟩) 4 4)).put (some 122) (.slice (some ⟨W0.heap.size + 1, 0, none⟩) 3 3)).put (some 123) (vA)).put (some 125) (.bool true)).put (some 126) (.bool false)).put (some 127) (.bool false)).put (some 128) (pv b1)).put (some 129) (vC)).put (some 130) (.slice (some ⟨wC.heap.size, 0, none⟩) 4 4)).put (some 131) (.bool true)).put (some 132) (.bool false)) (.const v) = v := fun _ => rfl
        have ef : ∀ f, Act.eval ((((((((((((a0.put (some 121) (pv b1)).put (some 124) (.slice (some ⟨W0.heap.size, 0, none⟩) 4 4)).put (some 122) (.slice (some ⟨W0.heap.size + 1, 0, none⟩) 3 3)).put (some 123) (vA)).put (some 125) (.bool true)).put (some 126) (.bool false)).put (some 127) (.bool false)).put (some 128) (pv b1)).put (some 129) (vC)).put (some 130) (.slice (some ⟨wC.heap.size, 0, none⟩) 4 4)).put (some 131) (.bool true)).put (some 132) (.bool false)) (.func f) = .func (.func f) #[] #[] := fun _ => rfl
        generalize Act.eval ((((((((((((a0.put (some 121) (pv b1)).put (some 124) (.slice (some ⟨W0.heap.size, 0, none⟩) 4 4)).put (some 122) (.slice (some ⟨W0.heap.size + 1, 0, none⟩) 3 3)).put (some 123) (vA)).put (some 125) (.bool true)).put (some 126) (.bool false)).put (some 127) (.bool false)).put (some 128) (pv b1)).put (some 129) (vC)).put (some 130) (.slice (some ⟨wC.heap.size, 0, none⟩) 4 4)).put (some 131) (.bool true)).put (some 132) (.bool false)) = ρ at *
        simp only [List.getElem_toArray, List.getElem_cons_zero, List.getElem_cons_succ]
        go_simp
      refine wpAnyH_done (by kernel_rfl) ?_ _
      subst hA
      simp only [Act.put, List.setIfInBounds_toArray, List.set_cons_zero, List.set_cons_succ]
      go_wp2_with fail
      go_meet
      exact ⟨rfl, hKD⟩
    refine any_value (i := 9) (d := some 130) (v := .slice (some ⟨wB.heap.size, 0, none⟩) 4 4) (w' := wB.alloc oC) rfl rfl (wanted_guard (j := 6) (d := 127) (want := false) rfl rfl (by rw [tmp_put_ne _ _ _ _ (by decide), tmp_put_same _ _ _ (by (repeat rw [Act.size_put]); omega)])) ?_ ?_ AllReadyH.nil
    · skip
      have ec : ∀ v, Act.eval ((((((((a0.put (some 121) (pv b1)).put (some 124) (.slice (some ⟨W0.heap.size, 0, none⟩) 4 4)).put (some 122) (.slice (some ⟨W0.heap.size + 1, 0, none⟩) 3 3)).put (some 123) (vA)).put (some 125) (.bool true)).put (some 126) (.bool false)).put (some 127) (.bool false)).put (some 128) (pv b1)) (.const v) = v := fun _ => rfl
      have ef : ∀ f, Act.eval ((((((((a0.put (some 121) (pv b1)).put (some 124) (.slice (some ⟨W0.heap.size, 0, none⟩) 4 4)).put (some 122) (.slice (some ⟨W0.heap.size + 1, 0, none⟩) 3 3)).put (some 123) (vA)).put (some 125) (.bool true)).put (some 126) (.bool false)).put (some 127) (.bool false)).put (some 128) (pv b1)) (.func f) = .func (.func f) #[] #[] := fun _ => rfl
      generalize Act.eval ((((((((a0.put (some 121) (pv b1)).put (some 124) (.slice (some ⟨W0.heap.size, 0, none⟩) 4 4)).put (some 122) (.slice (some ⟨W0.heap.size + 1, 0, none⟩) 3 3)).put (some 123) (vA)).put (some 125) (.bool true)).put (some 126) (.bool false)).put (some 127) (.bool false)).put (some 128) (pv b1)) = ρ at *
      simp only [List.getElem_toArray, List.getElem_cons_zero, List.getElem_cons_succ]
      have hmk := make4
      go_simp
    refine wpAnyH_ready (rs := [8]) (by kernel_rfl) (by simp) ?_
    refine any_enter (i := 8) (d := some 129) (f := 20) (args := #[pv b1, .slice none 0 0]) (w' := wB.alloc oC) rfl rfl (wanted_guard (j := 6) (d := 127) (want := false) rfl rfl (by rw [tmp_put_ne _ _ _ _ (by decide), tmp_put_ne _ _ _ _ (by decide), tmp_put_same _ _ _ (by (repeat rw [Act.size_put]); omega)])) ?_ ?_ AllReadyH.nil
    · skip
      have e128 : Act.eval (((((((((a0.put (some 121) (pv b1)).put (some 124) (.slice (some ⟨W0.heap.size, 0, none⟩) 4 4)).put (some 122) (.slice (some ⟨W0.heap.size + 1, 0, none⟩) 3 3)).put (some 123) (vA)).put (some 125) (.bool true)).put (some 126) (.bool false)).put (some 127) (.bool false)).put (some 128) (pv b1)).put (some 130) (.slice (some ⟨wB.heap.size, 0, none⟩) 4 4)) (.tmp 128) = pv b1 := by rw [Act.eval_put_ne _ _ _ _ (by decide), Act.eval_put_same _ _ _ (by (repeat rw [Act.size_put]); omega)]
      have ec : ∀ v, Act.eval (((((((((a0.put (some 121) (pv b1)).put (some 124) (.slice (some ⟨W0.heap.size, 0, none⟩) 4 4)).put (some 122) (.slice (some ⟨W0.heap.size + 1, 0, none⟩) 3 3)).put (some 123) (vA)).put (some 125) (.bool true)).put (some 126) (.bool false)).put (some 127) (.bool false)).put (some 128) (pv b1)).put (some 130) (.slice (some ⟨wB.heap.size, 0, none⟩) 4 4)) (.const v) = v := fun _ => rfl
      have ef : ∀ f, Act.eval (((((((((a0.put (some 121) (pv b1)).put (some 124) (.slice (some ⟨W0.heap.size, 0, none⟩) 4 4)).put (some 122) (.slice (some ⟨W0.heap.size + 1, 0, none⟩) 3 3)).put (some 123) (vA)).put (some 125) (.bool true)).put (some 126) (.bool false)).put (some 127) (.bool false)).put (some 128) (pv b1)).put (some 130) (.slice (some ⟨wB.heap.size, 0, none⟩) 4 4)) (.func f) = .func (.func f) #[] #[] := fun _ => rfl
      generalize Act.eval (((((((((a0.put (some 121) (pv b1)).put (some 124) (.slice (some ⟨W0.heap.size, 0, none⟩) 4 4)).put (some 122) (.slice (some ⟨W0.heap.size + 1, 0, none⟩) 3 3)).put (some 123) (vA)).put (some 125) (.bool true)).put (some 126) (.bool false)).put (some 127) (.bool false)).put (some 128) (pv b1)).put (some 130) (.slice (some ⟨wB.heap.size, 0, none⟩) 4 4)) = ρ at *
      simp only [List.getElem_toArray, List.getElem_cons_zero, List.getElem_cons_succ]
      go_simp
    refine (img5 wB hKB).mono ?_
    rintro e wC ⟨vC, rfl, hSC, hLC, hKC⟩
    refine ⟨vC, rfl, ?_⟩
    refine wpAnyH_ready (rs := [10]) (by kernel_rfl) (by simp) ?_
    refine any_enter (i := 10) (d := some 131) (f := 19) (args := #[vC, .slice (some ⟨wB.heap.size, 0, none⟩) 4 4]) (w' := wC) rfl rfl (wanted_guard (j := 6) (d := 127) (want := false) rfl rfl (by rw [tmp_put_ne _ _ _ _ (by decide), tmp_put_ne _ _ _ _ (by decide), tmp_put_ne _ _ _ _ (by decide), tmp_put_same _ _ _ (by (repeat rw [Act.size_put]); omega)])) ?_ ?_ AllReadyH.nil
    · skip
      have e129 : Act.eval ((((((((((a0.put (some 121) (pv b1)).put (some 124) (.slice (some ⟨W0.heap.size, 0, none⟩) 4 4)).put (some 122) (.slice (some ⟨W0.heap.size + 1, 0, none⟩) 3 3)).put (some 123) (vA)).put (some 125) (.bool true)).put (some 126) (.bool false)).put (some 127) (.bool false)).put (some 128) (pv b1)).put (some 130) (.slice (some ⟨wB.heap.size, 0, none⟩) 4 4)).put (some 129) (vC)) (.tmp 129) = vC := by rw [Act.eval_put_same _ _ _ (by (repeat rw [Act.size_put]); omega)]
      have e130 : Act.eval ((((((((((a0.put (some 121) (pv b1)).put (some 124) (.slice (some ⟨W0.heap.size, 0, none⟩) 4 4)).put (some 122) (.slice (some ⟨W0.heap.size + 1, 0, none⟩) 3 3)).put (some 123) (vA)).put (some 125) (.bool true)).put (some 126) (.bool false)).put (some 127) (.bool false)).put (some 128) (pv b1)).put (some 130) (.slice (some ⟨wB.heap.size, 0, none⟩) 4 4)).put (some 129) (vC)) (.tmp 130) = .slice (some ⟨wB.heap.size, 0, none⟩) 4 4 := by rw [Act.eval_put_ne _ _ _ _ (by decide), Act.eval_put_same _ _ _ (by (repeat rw [Act.size_put]); omega)]
      have ec : ∀ v, Act.eval ((((((((((a0.put (some 121) (pv b1)).put (some 124) (.slice (some ⟨W0.heap.size, 0, none⟩) 4 4)).put (some 122) (.slice (some ⟨W0.heap.size + 1, 0, none⟩) 3 3)).put (some 123) (vA)).put (some 125) (.bool true)).put (some 126) (.bool false)).put (some 127) (.bool false)).put (some 128) (pv b1)).put (some 130) (.slice (some ⟨wB.heap.size, 0, none⟩) 4 4)).put (some 129) (vC)) (.const v) = v := fun _ => rfl
      have ef : ∀ f, Act.eval ((((((((((a0.put (some 121) (pv b1)).put (some 124) (.slice (some ⟨W0.heap.size, 0, none⟩) 4 4)).put (some 122) (.slice (some ⟨W0.heap.size + 1, 0, none⟩) 3 3)).put (some 123) (vA)).put (some 125) (.bool true)).put (some 126) (.bool false)).put (some 127) (.bool false)).put (some 128) (pv b1)).put (some 130) (.slice (some ⟨wB.heap.size, 0, none⟩) 4 4)).put (some 129) (vC)) (.func f) = .func (.func f) #[] #[] := fun _ => rfl
      generalize Act.eval ((((((((((a0.put (some 121) (pv b1)).put (some 124) (.slice (some ⟨W0.heap.size, 0, none⟩) 4 4)).put (some 122) (.slice (some ⟨W0.heap.size + 1, 0, none⟩) 3 3)).put (some 123) (vA)).put (some 125) (.bool true)).put (some 126) (.bool false)).put (some 127) (.bool false)).put (some 128) (pv b1)).put (some 130) (.slice (some ⟨wB.heap.size, 0, none⟩) 4 4)).put (some 129) (vC)) = ρ at *
      simp only [List.getElem_toArray, List.getElem_cons_zero, List.getElem_cons_succ]
      go_simp
    refine (tru4 wC hSC hLC hKC).mono ?_
    rintro e wD ⟨rfl, hKD⟩
    refine ⟨_, rfl, ?_⟩
    refine any_take (i := 11) (d := some 132) (v := .bool false) rfl rfl (by kernel_rfl) (by kernel_rfl) (by kernel_rfl) (fun _ _ _ h => h) (wanted_guard (j := 6) (d := 127) (want := false) rfl rfl (by rw [tmp_put_ne _ _ _ _ (by decide), tmp_put_ne _ _ _ _ (by decide), tmp_put_ne _ _ _ _ (by decide), tmp_put_ne _ _ _ _ (by decide), tmp_put_same _ _ _ (by (repeat rw [Act.size_put]); omega)])) ?_ ?_
    · intro w9
      have e131 : Act.eval (((((((((((a0.put (some 121) (pv b1)).put (some 124) (.slice (some ⟨W0.heap.size, 0, none⟩) 4 4)).put (some 122) (.slice (some ⟨W0.heap.size + 1, 0, none⟩) 3 3)).put (some 123) (vA)).put (some 125) (.bool true)).put (some 126) (.bool false)).put (some 127) (.bool false)).put (some 128) (pv b1)).put (some 130) (.slice (some ⟨wB.heap.size, 0, none⟩) 4 4)).put (some 129) (vC)).put (some 131) (.bool true)) (.tmp 131) = .bool true := by rw [Act.eval_put_same _ _ _ (by (repeat rw [Act.size_put]); omega)]
      have ec : ∀ v, Act.eval (((((((((((a0.put (some 121) (pv b1)).put (some 124) (.slice (some ⟨W0.heap.size, 0, none⟩) 4 4)).put (some 122) (.slice (some ⟨W0.heap.size + 1, 0, none⟩) 3 3)).put (some 123) (vA)).put (some 125) (.bool true)).put (some 126) (.bool false)).put (some 127) (.bool false)).put (some 128) (pv b1)).put (some 130) (.slice (some ⟨wB.heap.size, 0, none⟩) 4 4)).put (some 129) (vC)).put (some 131) (.bool true)) (.const v) = v := fun _ => rfl
      have ef : ∀ f, Act.eval (((((((((((a0.put (some 121) (pv b1)).put (some 124) (.slice (some ⟨W0.heap.size, 0, none⟩) 4 4)).put (some 122) (.slice (some ⟨W0.heap.size + 1, 0, none⟩) 3 3)).put (some 123) (vA)).put (some 125) (.bool true)).put (some 126) (.bool false)).put (some 127) (.bool false)).put (some 128) (pv b1)).put (some 130) (.slice (some ⟨wB.heap.size, 0, none⟩) 4 4)).put (some 129) (vC)).put (some 131) (.bool true)) (.func f) = .func (.func f) #[] #[] := fun _ => rfl
      generalize Act.eval (((((((((((a0.put (some 121) (pv b1)).put (some 124) (.slice (some ⟨W0.heap.size, 0, none⟩) 4 4)).put (some 122) (.slice (some ⟨W0.heap.size + 1, 0, none⟩) 3 3)).put (some 123) (vA)).put (some 125) (.bool true)).put (some 126) (.bool false)).put (some 127) (.bool false)).put (some 128) (pv b1)).put (some 130) (.slice (some ⟨wB.heap.size, 0, none⟩) 4 4)).put (some 129) (vC)).put (some 131) (.bool true)) = ρ at *
      simp only [List.getElem_toArray, List.getElem_cons_zero, List.getElem_cons_succ]
      go_simp
    refine any_take (i := 12) (d := some 133) (v := .bool false) rfl rfl (by kernel_rfl) (by kernel_rfl) (by kernel_rfl) (fun _ _ _ h => h) (by rfl) ?_ ?_
    · intro w9
      have e127 : Act.eval ((((((((((((a0.put (some 121) (pv b1)).put (some 124) (.slice (some ⟨W0.heap.size, 0, none⟩) 4 4)).put (some 122) (.slice (some ⟨W0.heap.size + 1, 0, none⟩) 3 3)).put (some 123) (vA)).put (some 125) (.bool true)).put (some 126) (.bool false)).put (some 127) (.bool false)).put (some 128) (pv b1)).put (some 130) (.slice (some ⟨wB.heap.size, 0, none⟩) 4 4)).put (some 129) (vC)).put (some 131) (.bool true)).put (some 132) (.bool false)) (.tmp 127) = .bool false := by rw [Act.eval_put_ne _ _ _ _ (by decide), Act.eval_put_ne _ _ _ _ (by decide), Act.eval_put_ne _ _ _ _ (by decide), Act.eval_put_ne _ _ _ _ (by decide), Act.eval_put_ne _ _ _ _ (by decide), Act.eval_put_same _ _ _ (by (repeat rw [Act.size_put]); omega)]
      have e132 : Act.eval ((((((((((((a0.put (some 121) (pv b1)).put (some 124) (.slice (some ⟨W0.heap.size, 0, none⟩) 4 4)).put (some 122) (.slice (some ⟨W0.heap.size + 1, 0, none⟩) 3 3)).put (some 123) (vA)).put (some 125) (.bool true)).put (some 126) (.bool false)).put (some 127) (.bool false)).put (some 128) (pv b1)).put (some 130) (.slice (some ⟨wB.heap.size, 0, none⟩) 4 4)).put (some 129) (vC)).put (some 131) (.bool true)).put (some 132) (.bool false)) (.tmp 132) = .bool false := by rw [Act.eval_put_same _ _ _ (by (repeat rw [Act.size_put]); omega)]
      have ec : ∀ v, Act.eval ((((((((((((a0.put (some 121) (pv b1)).put (some 124) (.slice (some ⟨W0.heap.size, 0, none⟩) 4 4)).put (some 122) (.slice (some ⟨W0.heap.size + 1, 0, none⟩) 3 3)).put (some 123) (vA)).put (some 125) (.bool true)).put (some 126) (.bool false)).put (some 127) (.bool false)).put (some 128) (pv b1)).put (some 130) (.slice (some ⟨wB.heap.size, 0, none⟩) 4 4)).put (some 129) (vC)).put (some 131) (.bool true)).put (some 132) (.bool false)) (.const v) = v := fun _ => rfl
      have ef : ∀ f, Act.eval ((((((((((((a0.put (some 121) (pv b1)).put (some 124) (.slice (some ⟨W0.heap.size, 0, none⟩) 4 4)).put (some 122) (.slice (some ⟨W0.heap.size + 1, 0, none⟩) 3 3)).put (some 123) (vA)).put (some 125) (.bool true)).put (some 126) (.bool false)).put (some 127) (.bool false)).put (some 128) (pv b1)).put (some 130) (.slice (some ⟨wB.heap.size, 0, none⟩) 4 4)).put (some 129) (vC)).put (some 131) (.bool true)).put (some 132) (.bool false)) (.func f) = .func (.func f) #[] #[] := fun _ => rfl
      generalize Act.eval ((((((((((((a0.put (some 121) (pv b1)).put (some 124) (.slice (some ⟨W0.heap.size, 0, none⟩) 4 4)).put (some 122) (.slice (some ⟨W0.heap.size + 1, 0, none⟩) 3 3)).put (some 123) (vA)).put (some 125) (.bool true)).put (some 126) (.bool false)).put (some 127) (.bool false)).put (some 128) (pv b1)).put (some 130) (.slice (some ⟨wB.heap.size, 0, none⟩) 4 4)).put (some 129) (vC)).put (some 131) (.bool true)).put (some 132) (.bool false)) = ρ at *
      simp only [List.getElem_toArray, List.getElem_cons_zero, List.getElem_cons_succ]
      go_simp
    refine wpAnyH_done (by kernel_rfl) ?_ _
    subst hA
    simp only [Act.put, List.setIfInBounds_toArray, List.set_cons_zero, List.set_cons_succ]
    go_wp2_with fail
    go_meet
    exact ⟨rfl, hKD⟩
  case rest =>
  obtain ⟨rfl, hK2⟩ := hcut
  clear hK
  have hK := hK2
  clear hK2
  go_wp2_with fail
  refine (Union_nil _).mono ?_
  rintro e w24 ⟨b8, c8, rfl, hM⟩
  replace hK := hK.add hM
  clear hM
  go_wp2_with fail
  refine (NewT 2 2 _ rfl).mono ?_
  rintro e w25 ⟨b9, c9, rfl, hM⟩
  replace hK := hK.add hM
  clear hM
  go_wp2_with fail
  refine (Union_two w25 b9 c9 b1 c1 _ exR hK.one (hK.rel (b1, c1, exR) (by simp))).mono ?_
  rintro e w26 ⟨b10, c10, rfl, hM⟩
  replace hK := hK.add hM
  clear hM
  go_wp2_with fail
  refine (NewT 2 2 _ rfl).mono ?_
  rintro e w27 ⟨b11, c11, rfl, hM⟩
  replace hK := hK.add hM
  clear hM
  go_wp2_with fail
  refine (Inter_calls b11 c11 b1 c1 _ exR _ hK.one (hK.rel (b1, c1, exR) (by simp))).mono ?_
  rintro e w28 ⟨b12, c12, rfl, hM⟩
  replace hK := hK.add hM
  clear hM
  go_wp2_with fail
  refine (NewT 9 9 _ rfl).mono ?_
  rintro e w29 ⟨b13, c13, rfl, hM⟩
  replace hK := hK.add hM
  clear hM
  go_wp2_with fail
  refine (Minus_calls b1 c1 b13 c13 exR _ _ (hK.rel (b1, c1, exR) (by simp)) hK.one).mono ?_
  rintro e w30 ⟨b14, c14, rfl, hM⟩
  replace hK := hK.add hM
  clear hM
  go_wp2_with fail
  refine (NewT 1000 256 _ rfl).mono ?_
  rintro e w31 ⟨b15, c15, rfl, hM⟩
  replace hK := hK.add hM
  clear hM
  go_wp2_with fail
  refine (Ident_calls 3 (.slice (some ⟨w31.heap.size, 0, none⟩) 4 4) [true, false, true, true] _ (bools4 w31 true false true true).set4 (hK.alloc _).tab).mono ?_
  rintro e w32 ⟨b16, c16, rfl, hM⟩
  replace hK := (hK.alloc _).add hM
  clear hM
  go_wp2_with fail
  refine (NewT (-3) 0 _ rfl).mono ?_
  rintro e w33 ⟨b17, c17, rfl, hM⟩
  replace hK := hK.add hM
  clear hM
  replace hK := hK.few (rs' := [(b17, c17, List.replicate 0 0), (b16, c16, identL 3 [true, false, true, true]), (b15, c15, List.replicate 256 0), (b14, c14, minusL exR (List.replicate 9 0)), (b12, c12, interL (List.replicate 2 0) exR), (b10, c10, unionL [List.replicate 2 0, exR]), (b8, c8, [])]) (by simp)
  go_wp2_with fail
  refine (LenT 0 b8 c8 ([]) _ (hK.rel (b8, c8, []) (by simp)) rfl).mono ?_
  rintro e w34 ⟨rfl, rfl⟩
  go_wp2_with fail
  refine (LenT 4 b10 c10 (unionL [List.replicate 2 0, exR]) _ (hK.rel (b10, c10, unionL [List.replicate 2 0, exR]) (by simp)) k_len8).mono ?_
  rintro e w35 ⟨rfl, rfl⟩
  go_wp2_with fail
  refine (LenT 4 b12 c12 (interL (List.replicate 2 0) exR) _ (hK.rel (b12, c12, interL (List.replicate 2 0) exR) (by simp)) k_len9).mono ?_
  rintro e w36 ⟨rfl, rfl⟩
  go_wp2_with fail
  refine (LenT 9 b14 c14 (minusL exR (List.replicate 9 0)) _ (hK.rel (b14, c14, minusL exR (List.replicate 9 0)) (by simp)) k_len10).mono ?_
  rintro e w37 ⟨rfl, rfl⟩
  go_wp2_with fail
  refine (LenT 0 b17 c17 (List.replicate 0 0) _ (hK.rel (b17, c17, List.replicate 0 0) (by simp)) rfl).mono ?_
  rintro e w38 ⟨rfl, rfl⟩
  go_wp2_with fail
  refine (LenT 256 b15 c15 (List.replicate 256 0) _ (hK.rel (b15, c15, List.replicate 256 0) (by simp)) k_len11).mono ?_
  rintro e w39 ⟨rfl, rfl⟩
  go_wp2_with fail
  refine (PairsT [(0, 0), (2, 2)] b16 c16 (identL 3 [true, false, true, true]) _ (hK.rel (b16, c16, identL 3 [true, false, true, true]) (by simp)) hK.tab k_ident).mono ?_
  rintro e w40 ⟨v6, rfl, hP, hB⟩
  replace hK := hK.step hB
  clear hB
  go_wp2_with fail
  refine (pairsT v6 (.slice (some ⟨w40.heap.size, 0, none⟩) 2 2) [(0, 0), (2, 2)] _ (hP.below (below_new _ _)) (prs2 w40 0 0 2 2) (by decide)).mono ?_
  clear hP
  rintro e w41 ⟨rfl, hB⟩
  replace hK := (hK.alloc _).step hB
  clear hB
  replace hK := hK.few (rs' := []) (by simp)
  go_wp2_with fail
  refine (NewT 2 2 _ rfl).mono ?_
  rintro e w42 ⟨b18, c18, rfl, hM⟩
  replace hK := hK.add hM
  clear hM
  go_wp2_with fail
  refine (NewT 3 3 _ rfl).mono ?_
  rintro e w43 ⟨b19, c19, rfl, hM⟩
  replace hK := hK.add hM
  clear hM
  go_wp2_with fail
  refine (EqualT false b18 c18 b19 c19 (List.replicate 2 0) (List.replicate 3 0) _ (hK.rel (b18, c18, List.replicate 2 0) (by simp)) hK.one k_eq).mono ?_
  rintro e w44 ⟨rfl, hB⟩
  replace hK := hK.step hB
  clear hB
  go_wp2_with fail
  refine (NewT 3 3 _ rfl).mono ?_
  rintro e w45 ⟨b20, c20, rfl, hM⟩
  replace hK := hK.add hM
  clear hM
  go_wp2_with fail
  refine (NewT 2 2 _ rfl).mono ?_
  rintro e w46 ⟨b21, c21, rfl, hM⟩
  replace hK := hK.add hM
  clear hM
  go_wp2_with fail
  refine (WithinT true b20 c20 b21 c21 (List.replicate 3 0) (List.replicate 2 0) _ (hK.rel (b20, c20, List.replicate 3 0) (by simp)) hK.one k_in).mono ?_
  rintro e w47 ⟨rfl, hB⟩
  replace hK := hK.step hB
  clear hB
  go_wp2_with fail
  go_ret
  exact ⟨rfl, hK.below⟩
end Go.Proofs.YtpflelkdkpabbaaDoor
