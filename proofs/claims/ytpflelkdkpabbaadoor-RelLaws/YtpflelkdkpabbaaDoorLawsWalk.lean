/- The contract of the statement RelLaws' program: it answers true. -/
import Derived.Test.YtpflelkdkpabbaaDoorRelMath
import Derived.Test.YtpflelkdkpabbaaDoorKnownMem
import Derived.Test.YtpflelkdkpabbaaDoorOfArgs
namespace Go.Proofs.YtpflelkdkpabbaaDoor
open Go.RowKit Go.Shelf Sx

theorem ofL_length (n : Int) (l : List (Int × Int)) : (ofL n l).length = clampN n := by
  have : ∀ (l : List (Int × Int)) (X : List Nat), (l.foldl (fun A x => putP A x.1 x.2 true) X).length = X.length := by
    intro l
    induction l with
    | nil => intro X; rfl
    | cons x l ih => intro X; rw [List.foldl_cons, ih, putP_len]
  unfold ofL ofK
  rw [this, List.length_replicate]
theorem clampN_le (n : Int) : clampN n ≤ 256 := by unfold clampN; omega
theorem law_or (x y : Bool) (h : x = false → y = false) : (x || !y) = true := by cases x <;> simp_all

set_option maxRecDepth 100000 in
set_option maxHeartbeats 20000000 in
theorem RelLaws_calls (n : Int) (v1 v2 v3 : Value) (l1 l2 l3 : List (Int × Int)) (w : World) (hT : Tab w) (h1 : PArg w v1 l1) (h2 : PArg w v2 l2) (h3 : PArg w v3 l3) :
    Calls Tryd.prog 5 #[.int .i64 n, v1, v2, v3] w fun e w' => e = .returned (.bool true) ∧ Below w.heap.size w w' := by
  go_enter Tryd.func5, Tryd.ntmps5
  have hK := KN.nil hT
  go_wp2_with fail
  refine (OfT n v1 l1 _ (h1.below hK.below)).mono ?_
  rintro e w1 ⟨b1, c1, rfl, hM⟩
  replace hK := hK.add hM
  clear hM
  go_wp2_with fail
  refine (OfT n v2 l2 _ (h2.below hK.below)).mono ?_
  rintro e w2 ⟨b2, c2, rfl, hM⟩
  replace hK := hK.add hM
  clear hM
  go_wp2_with fail
  refine (OfT n v3 l3 _ (h3.below hK.below)).mono ?_
  rintro e w3 ⟨b3, c3, rfl, hM⟩
  replace hK := hK.add hM
  clear hM
  have hN := clampN_le n
  have hA : WF (clampN n) (ofL n l1) := (hK.rel (b1, c1, ofL n l1) (by simp)).wf (ofL_length n l1)
  have hB : WF (clampN n) (ofL n l2) := (hK.rel (b2, c2, ofL n l2) (by simp)).wf (ofL_length n l2)
  have hC : WF (clampN n) (ofL n l3) := (hK.rel (b3, c3, ofL n l3) (by simp)).wf (ofL_length n l3)
  generalize ofL n l1 = A at *
  generalize ofL n l2 = B at *
  generalize ofL n l3 = C at *
  generalize clampN n = N at *
  clear h1 h2 h3
  replace hK := hK.few (rs' := [(b1, c1, A), (b2, c2, B), (b3, c3, C)]) (by simp)
  go_wp2_with fail
  refine (lives_calls _ hK.tab).mono ?_
  rintro e w4 ⟨rfl, hB⟩
  replace hK := hK.step hB
  clear hB
  go_wp2_with fail
  refine (Plus_calls b1 c1 _ _ (hK.rel (b1, c1, A) (by simp))).mono ?_
  rintro e w5 ⟨b4, c4, rfl, hM⟩
  replace hK := hK.add hM
  clear hM
  replace hK := hK.few (rs' := [(b1, c1, A), (b2, c2, B), (b3, c3, C), (b4, c4, plusL A)]) (by simp)
  go_wp2_with fail
  refine (Comp_calls b1 c1 b2 c2 _ _ _ (hK.rel (b1, c1, A) (by simp)) (hK.rel (b2, c2, B) (by simp)) hK.tab).mono ?_
  rintro e w6 ⟨b5, c5, rfl, hM⟩
  replace hK := hK.add hM
  clear hM
  go_wp2_with fail
  refine (Comp_calls b5 c5 b3 c3 _ _ _ (hK.rel (b5, c5, (compL A B)) (by simp)) (hK.rel (b3, c3, C) (by simp)) hK.tab).mono ?_
  rintro e w7 ⟨b6, c6, rfl, hM⟩
  replace hK := hK.add hM
  clear hM
  go_wp2_with fail
  refine (Comp_calls b2 c2 b3 c3 _ _ _ (hK.rel (b2, c2, B) (by simp)) (hK.rel (b3, c3, C) (by simp)) hK.tab).mono ?_
  rintro e w8 ⟨b7, c7, rfl, hM⟩
  replace hK := hK.add hM
  clear hM
  go_wp2_with fail
  refine (Comp_calls b1 c1 b7 c7 _ _ _ (hK.rel (b1, c1, A) (by simp)) (hK.rel (b7, c7, (compL B C)) (by simp)) hK.tab).mono ?_
  rintro e w9 ⟨b8, c8, rfl, hM⟩
  replace hK := hK.add hM
  clear hM
  go_wp2_with fail
  refine (EqualT true b6 c6 b8 c8 (compL (compL A B) C) (compL A (compL B C)) _ (hK.rel (b6, c6, (compL (compL A B) C)) (by simp)) (hK.rel (b8, c8, (compL A (compL B C))) (by simp)) (beq_iff_eq.2 (law_assoc hN hA hB hC))).mono ?_
  rintro e w10 ⟨rfl, hB⟩
  replace hK := hK.step hB
  clear hB
  replace hK := hK.few (rs' := [(b1, c1, A), (b2, c2, B), (b3, c3, C), (b4, c4, plusL A)]) (by simp)
  go_wp2_with fail
  refine (Comp_calls b1 c1 b2 c2 _ _ _ (hK.rel (b1, c1, A) (by simp)) (hK.rel (b2, c2, B) (by simp)) hK.tab).mono ?_
  rintro e w11 ⟨b9, c9, rfl, hM⟩
  replace hK := hK.add hM
  clear hM
  go_wp2_with fail
  refine (Inverse_calls b9 c9 _ _ (hK.rel (b9, c9, (compL A B)) (by simp)) hK.tab).mono ?_
  rintro e w12 ⟨b10, c10, rfl, hM⟩
  replace hK := hK.add hM
  clear hM
  go_wp2_with fail
  refine (Inverse_calls b2 c2 _ _ (hK.rel (b2, c2, B) (by simp)) hK.tab).mono ?_
  rintro e w13 ⟨b11, c11, rfl, hM⟩
  replace hK := hK.add hM
  clear hM
  go_wp2_with fail
  refine (Inverse_calls b1 c1 _ _ (hK.rel (b1, c1, A) (by simp)) hK.tab).mono ?_
  rintro e w14 ⟨b12, c12, rfl, hM⟩
  replace hK := hK.add hM
  clear hM
  go_wp2_with fail
  refine (Comp_calls b11 c11 b12 c12 _ _ _ (hK.rel (b11, c11, (invL B)) (by simp)) (hK.rel (b12, c12, (invL A)) (by simp)) hK.tab).mono ?_
  rintro e w15 ⟨b13, c13, rfl, hM⟩
  replace hK := hK.add hM
  clear hM
  go_wp2_with fail
  refine (EqualT true b10 c10 b13 c13 (invL (compL A B)) (compL (invL B) (invL A)) _ (hK.rel (b10, c10, (invL (compL A B))) (by simp)) (hK.rel (b13, c13, (compL (invL B) (invL A))) (by simp)) (beq_iff_eq.2 (law_inv hN hA hB))).mono ?_
  rintro e w16 ⟨rfl, hB⟩
  replace hK := hK.step hB
  clear hB
  replace hK := hK.few (rs' := [(b1, c1, A), (b2, c2, B), (b3, c3, C), (b4, c4, plusL A)]) (by simp)
  go_wp2_with fail
  refine (Inverse_calls b1 c1 _ _ (hK.rel (b1, c1, A) (by simp)) hK.tab).mono ?_
  rintro e w17 ⟨b14, c14, rfl, hM⟩
  replace hK := hK.add hM
  clear hM
  go_wp2_with fail
  refine (Inverse_calls b14 c14 _ _ (hK.rel (b14, c14, (invL A)) (by simp)) hK.tab).mono ?_
  rintro e w18 ⟨b15, c15, rfl, hM⟩
  replace hK := hK.add hM
  clear hM
  go_wp2_with fail
  refine (EqualT true b15 c15 b1 c1 (invL (invL A)) A _ (hK.rel (b15, c15, (invL (invL A))) (by simp)) (hK.rel (b1, c1, A) (by simp)) (beq_iff_eq.2 (law_inv2 hN hA))).mono ?_
  rintro e w19 ⟨rfl, hB⟩
  replace hK := hK.step hB
  clear hB
  replace hK := hK.few (rs' := [(b1, c1, A), (b2, c2, B), (b3, c3, C), (b4, c4, plusL A)]) (by simp)
  go_wp2_with fail
  refine (Union_two w19 b2 c2 b3 c3 _ _ (hK.rel (b2, c2, B) (by simp)) (hK.rel (b3, c3, C) (by simp))).mono ?_
  rintro e w20 ⟨b16, c16, rfl, hM⟩
  replace hK := hK.add hM
  clear hM
  go_wp2_with fail
  refine (Comp_calls b1 c1 b16 c16 _ _ _ (hK.rel (b1, c1, A) (by simp)) (hK.rel (b16, c16, (unionL [B, C])) (by simp)) hK.tab).mono ?_
  rintro e w21 ⟨b17, c17, rfl, hM⟩
  replace hK := hK.add hM
  clear hM
  go_wp2_with fail
  refine (Comp_calls b1 c1 b2 c2 _ _ _ (hK.rel (b1, c1, A) (by simp)) (hK.rel (b2, c2, B) (by simp)) hK.tab).mono ?_
  rintro e w22 ⟨b18, c18, rfl, hM⟩
  replace hK := hK.add hM
  clear hM
  go_wp2_with fail
  refine (Comp_calls b1 c1 b3 c3 _ _ _ (hK.rel (b1, c1, A) (by simp)) (hK.rel (b3, c3, C) (by simp)) hK.tab).mono ?_
  rintro e w23 ⟨b19, c19, rfl, hM⟩
  replace hK := hK.add hM
  clear hM
  go_wp2_with fail
  refine (Union_two w23 b18 c18 b19 c19 _ _ (hK.rel (b18, c18, (compL A B)) (by simp)) (hK.rel (b19, c19, (compL A C)) (by simp))).mono ?_
  rintro e w24 ⟨b20, c20, rfl, hM⟩
  replace hK := hK.add hM
  clear hM
  go_wp2_with fail
  refine (EqualT true b17 c17 b20 c20 (compL A (unionL [B, C])) (unionL [(compL A B), (compL A C)]) _ (hK.rel (b17, c17, (compL A (unionL [B, C]))) (by simp)) (hK.rel (b20, c20, (unionL [(compL A B), (compL A C)])) (by simp)) (beq_iff_eq.2 (law_dist hN hA hB hC))).mono ?_
  rintro e w25 ⟨rfl, hB⟩
  replace hK := hK.step hB
  clear hB
  replace hK := hK.few (rs' := [(b1, c1, A), (b2, c2, B), (b3, c3, C), (b4, c4, plusL A)]) (by simp)
  go_wp2_with fail
  refine (Minus_calls b1 c1 b2 c2 _ _ _ (hK.rel (b1, c1, A) (by simp)) (hK.rel (b2, c2, B) (by simp))).mono ?_
  rintro e w26 ⟨b21, c21, rfl, hM⟩
  replace hK := hK.add hM
  clear hM
  go_wp2_with fail
  refine (Inter_calls b1 c1 b2 c2 _ _ _ (hK.rel (b1, c1, A) (by simp)) (hK.rel (b2, c2, B) (by simp))).mono ?_
  rintro e w27 ⟨b22, c22, rfl, hM⟩
  replace hK := hK.add hM
  clear hM
  go_wp2_with fail
  refine (Union_two w27 b21 c21 b22 c22 _ _ (hK.rel (b21, c21, (minusL A B)) (by simp)) (hK.rel (b22, c22, (interL A B)) (by simp))).mono ?_
  rintro e w28 ⟨b23, c23, rfl, hM⟩
  replace hK := hK.add hM
  clear hM
  go_wp2_with fail
  refine (EqualT true b23 c23 b1 c1 (unionL [(minusL A B), (interL A B)]) A _ (hK.rel (b23, c23, (unionL [(minusL A B), (interL A B)])) (by simp)) (hK.rel (b1, c1, A) (by simp)) (beq_iff_eq.2 (law_parts hA hB))).mono ?_
  rintro e w29 ⟨rfl, hB⟩
  replace hK := hK.step hB
  clear hB
  replace hK := hK.few (rs' := [(b1, c1, A), (b2, c2, B), (b3, c3, C), (b4, c4, plusL A)]) (by simp)
  go_wp2_with fail
  refine (Plus_calls b4 c4 _ _ (hK.rel (b4, c4, (plusL A)) (by simp))).mono ?_
  rintro e w30 ⟨b24, c24, rfl, hM⟩
  replace hK := hK.add hM
  clear hM
  go_wp2_with fail
  refine (EqualT true b24 c24 b4 c4 (plusL (plusL A)) (plusL A) _ (hK.rel (b24, c24, (plusL (plusL A))) (by simp)) (hK.rel (b4, c4, (plusL A)) (by simp)) (beq_iff_eq.2 (law_plus2 hA))).mono ?_
  rintro e w31 ⟨rfl, hB⟩
  replace hK := hK.step hB
  clear hB
  replace hK := hK.few (rs' := [(b1, c1, A), (b2, c2, B), (b3, c3, C), (b4, c4, plusL A)]) (by simp)
  go_wp2_with fail
  refine (Comp_calls b4 c4 b4 c4 _ _ _ (hK.rel (b4, c4, (plusL A)) (by simp)) (hK.rel (b4, c4, (plusL A)) (by simp)) hK.tab).mono ?_
  rintro e w32 ⟨b25, c25, rfl, hM⟩
  replace hK := hK.add hM
  clear hM
  go_wp2_with fail
  refine (WithinT true b25 c25 b4 c4 (compL (plusL A) (plusL A)) (plusL A) _ (hK.rel (b25, c25, (compL (plusL A) (plusL A))) (by simp)) (hK.rel (b4, c4, (plusL A)) (by simp)) (law_trans hN hA)).mono ?_
  rintro e w33 ⟨rfl, hB⟩
  replace hK := hK.step hB
  clear hB
  replace hK := hK.few (rs' := [(b1, c1, A), (b2, c2, B), (b3, c3, C), (b4, c4, plusL A)]) (by simp)
  go_wp2_with fail
  refine (WithinT true b1 c1 b4 c4 A (plusL A) _ (hK.rel (b1, c1, A) (by simp)) (hK.rel (b4, c4, (plusL A)) (by simp)) (law_in hA)).mono ?_
  rintro e w34 ⟨rfl, hB⟩
  replace hK := hK.step hB
  clear hB
  replace hK := hK.few (rs' := [(b1, c1, A), (b2, c2, B), (b3, c3, C), (b4, c4, plusL A)]) (by simp)
  go_wp2_with fail
  refine (Comp_calls b1 c1 b4 c4 _ _ _ (hK.rel (b1, c1, A) (by simp)) (hK.rel (b4, c4, (plusL A)) (by simp)) hK.tab).mono ?_
  rintro e w35 ⟨b26, c26, rfl, hM⟩
  replace hK := hK.add hM
  clear hM
  go_wp2_with fail
  refine (Union_two w35 b1 c1 b26 c26 _ _ (hK.rel (b1, c1, A) (by simp)) (hK.rel (b26, c26, (compL A (plusL A))) (by simp))).mono ?_
  rintro e w36 ⟨b27, c27, rfl, hM⟩
  replace hK := hK.add hM
  clear hM
  go_wp2_with fail
  refine (EqualT true b4 c4 b27 c27 (plusL A) (unionL [A, (compL A (plusL A))]) _ (hK.rel (b4, c4, (plusL A)) (by simp)) (hK.rel (b27, c27, (unionL [A, (compL A (plusL A))])) (by simp)) (beq_iff_eq.2 (law_step hN hA))).mono ?_
  rintro e w37 ⟨rfl, hB⟩
  replace hK := hK.step hB
  clear hB
  replace hK := hK.few (rs' := [(b1, c1, A), (b2, c2, B), (b3, c3, C), (b4, c4, plusL A)]) (by simp)
  go_wp2_with fail
  refine (Inverse_calls b1 c1 _ _ (hK.rel (b1, c1, A) (by simp)) hK.tab).mono ?_
  rintro e w38 ⟨b28, c28, rfl, hM⟩
  replace hK := hK.add hM
  clear hM
  go_wp2_with fail
  refine (Plus_calls b28 c28 _ _ (hK.rel (b28, c28, (invL A)) (by simp))).mono ?_
  rintro e w39 ⟨b29, c29, rfl, hM⟩
  replace hK := hK.add hM
  clear hM
  go_wp2_with fail
  refine (Inverse_calls b4 c4 _ _ (hK.rel (b4, c4, (plusL A)) (by simp)) hK.tab).mono ?_
  rintro e w40 ⟨b30, c30, rfl, hM⟩
  replace hK := hK.add hM
  clear hM
  go_wp2_with fail
  refine (EqualT true b29 c29 b30 c30 (plusL (invL A)) (invL (plusL A)) _ (hK.rel (b29, c29, (plusL (invL A))) (by simp)) (hK.rel (b30, c30, (invL (plusL A))) (by simp)) (beq_iff_eq.2 (law_plusInv hN hA))).mono ?_
  rintro e w41 ⟨rfl, hB⟩
  replace hK := hK.step hB
  clear hB
  replace hK := hK.few (rs' := [(b1, c1, A), (b2, c2, B), (b3, c3, C), (b4, c4, plusL A)]) (by simp)
  go_wp2_with fail
  refine (Star_calls b1 c1 _ _ (hK.rel (b1, c1, A) (by simp))).mono ?_
  rintro e w42 ⟨b31, c31, rfl, hM⟩
  replace hK := hK.add hM
  clear hM
  go_wp2_with fail
  refine (Opt_calls b4 c4 _ _ (hK.rel (b4, c4, (plusL A)) (by simp))).mono ?_
  rintro e w43 ⟨b32, c32, rfl, hM⟩
  replace hK := hK.add hM
  clear hM
  go_wp2_with fail
  refine (EqualT true b31 c31 b32 c32 (optL (plusL A)) (optL (plusL A)) _ (hK.rel (b31, c31, (optL (plusL A))) (by simp)) (hK.rel (b32, c32, (optL (plusL A))) (by simp)) (beq_iff_eq.2 rfl)).mono ?_
  rintro e w44 ⟨rfl, hB⟩
  replace hK := hK.step hB
  clear hB
  replace hK := hK.few (rs' := [(b1, c1, A), (b2, c2, B), (b3, c3, C), (b4, c4, plusL A)]) (by simp)
  go_wp2_with fail
  refine (Inter_calls b1 c1 b2 c2 _ _ _ (hK.rel (b1, c1, A) (by simp)) (hK.rel (b2, c2, B) (by simp))).mono ?_
  rintro e w45 ⟨b33, c33, rfl, hM⟩
  replace hK := hK.add hM
  clear hM
  go_wp2_with fail
  refine (Inter_calls b2 c2 b1 c1 _ _ _ (hK.rel (b2, c2, B) (by simp)) (hK.rel (b1, c1, A) (by simp))).mono ?_
  rintro e w46 ⟨b34, c34, rfl, hM⟩
  replace hK := hK.add hM
  clear hM
  go_wp2_with fail
  refine (EqualT true b33 c33 b34 c34 (interL A B) (interL B A) _ (hK.rel (b33, c33, (interL A B)) (by simp)) (hK.rel (b34, c34, (interL B A)) (by simp)) (beq_iff_eq.2 (law_interComm hA hB))).mono ?_
  rintro e w47 ⟨rfl, hB⟩
  replace hK := hK.step hB
  clear hB
  replace hK := hK.few (rs' := [(b1, c1, A), (b2, c2, B), (b3, c3, C), (b4, c4, plusL A)]) (by simp)
  go_wp2_with fail
  refine (Union_two w47 b1 c1 b2 c2 _ _ (hK.rel (b1, c1, A) (by simp)) (hK.rel (b2, c2, B) (by simp))).mono ?_
  rintro e w48 ⟨b35, c35, rfl, hM⟩
  replace hK := hK.add hM
  clear hM
  go_wp2_with fail
  refine (Union_two w48 b2 c2 b1 c1 _ _ (hK.rel (b2, c2, B) (by simp)) (hK.rel (b1, c1, A) (by simp))).mono ?_
  rintro e w49 ⟨b36, c36, rfl, hM⟩
  replace hK := hK.add hM
  clear hM
  go_wp2_with fail
  refine (EqualT true b35 c35 b36 c36 (unionL [A, B]) (unionL [B, A]) _ (hK.rel (b35, c35, (unionL [A, B])) (by simp)) (hK.rel (b36, c36, (unionL [B, A])) (by simp)) (beq_iff_eq.2 (law_unionComm hA hB))).mono ?_
  rintro e w50 ⟨rfl, hB⟩
  replace hK := hK.step hB
  clear hB
  replace hK := hK.few (rs' := [(b1, c1, A), (b2, c2, B), (b3, c3, C), (b4, c4, plusL A)]) (by simp)
  go_wp2_with fail
  refine (Acyclic_calls b1 c1 A _ (hK.rel (b1, c1, A) (by simp))).mono ?_
  rintro e w51 ⟨rfl, hB⟩
  replace hK := hK.step hB
  clear hB
  have hq : ∀ y : Bool, (loopsL (plusL A) == 0) = false → (loopsL (plusL (unionL [A, B])) == 0) = y → y = false := by
    rintro y h1 rfl
    rw [beq_eq_false_iff_ne] at h1 ⊢
    exact law_acyclic hA hB h1
  cases hx : (loopsL (plusL A) == 0)
  · have hq2 := hq _ hx rfl
    go_wp2_with fail
    refine (Union_two w51 b1 c1 b2 c2 _ _ (hK.rel (b1, c1, A) (by simp)) (hK.rel (b2, c2, B) (by simp))).mono ?_
    rintro e w52 ⟨b37, c37, rfl, hM⟩
    replace hK := hK.add hM
    clear hM
    go_wp2_with fail
    refine (Acyclic_calls b37 c37 _ _ (hK.rel (b37, c37, (unionL [A, B])) (by simp))).mono ?_
    rw [hq2]
    rintro e w53 ⟨rfl, hB5⟩
    replace hK := hK.step hB5
    clear hB5
    go_wp2_with fail
    refine (Acyclic_calls b1 c1 A _ (hK.rel (b1, c1, A) (by simp))).mono ?_
    rw [hx]
    rintro e w54 ⟨rfl, hB6⟩
    replace hK := hK.step hB6
    clear hB6
    go_wp2_with fail
    refine (Irr_calls b4 c4 (plusL A) _ (hK.rel (b4, c4, (plusL A)) (by simp))).mono ?_
    rw [hx]
    rintro e w55 ⟨rfl, hB7⟩
    replace hK := hK.step hB7
    clear hB7
    go_wp2_with fail
    go_ret
    exact ⟨rfl, hK.below⟩
  · clear hq
    go_wp2_with fail
    refine (Acyclic_calls b1 c1 A _ (hK.rel (b1, c1, A) (by simp))).mono ?_
    rw [hx]
    rintro e w52 ⟨rfl, hB6⟩
    replace hK := hK.step hB6
    clear hB6
    go_wp2_with fail
    refine (Irr_calls b4 c4 (plusL A) _ (hK.rel (b4, c4, (plusL A)) (by simp))).mono ?_
    rw [hx]
    rintro e w53 ⟨rfl, hB7⟩
    replace hK := hK.step hB7
    clear hB7
    go_wp2_with fail
    go_ret
    exact ⟨rfl, hK.below⟩
end Go.Proofs.YtpflelkdkpabbaaDoor
