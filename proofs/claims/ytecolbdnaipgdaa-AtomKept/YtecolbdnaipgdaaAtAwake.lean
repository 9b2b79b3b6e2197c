/- The statements' awake: what is pushed is popped. -/
import Derived.Test.YtecolbdnaipgdaaAtStack2
namespace Go.Proofs.Ytecolbdnaipgdaa
open Go.RowKit

set_option maxRecDepth 100000 in
set_option maxHeartbeats 4000000 in
theorem awake_calls (w : World) : Calls Try.prog 4 #[] w fun e w' => e = .returned (.bool true) ∧ Below w.heap.size w w' := by
  have HW1 : Hid (IntKind.i64.wrap (0 + 1) = 1) := by show IntKind.i64.wrap (0 + 1) = 1; decide
  have HW2 : Hid (IntKind.i64.wrap (1 + 1) = 2) := by show IntKind.i64.wrap (1 + 1) = 2; decide
  go_enter Try.func4, Try.ntmps4
  go_wp2_with fail
  refine (NewStack_calls _).mono ?_
  rintro e w1 ⟨S, rfl, zS, hS, hB1⟩
  have lS := hS.lt
  go_wp2_with fail
  refine (Push_calls S 7 _).mono ?_
  rintro e w2 ⟨T, C, g, rfl, zT, zC, zg, nTC, nTg, nCg, hg, hT, hC, hB2⟩
  have lT := hT.lt
  have lC := hC.lt
  have lg := hg.lt
  have hS := hS.of_below hB2
  have hX2 := below_step hB1 hB1.size hB2
  go_wp2_with fail
  refine (Pop_calls S _).mono ?_
  rintro e w3 ⟨U, D, rfl, zU, zD, nUD, hU, hD, hB3⟩
  have lU := hU.lt
  have lD := hD.lt
  have hS := hS.of_below hB3
  have hT := hT.of_below hB3
  have hC := hC.of_below hB3
  have hg := hg.of_below hB3
  have hX3 := below_step hX2 hX2.size hB3
  have s1 := hB1.size
  have s2 := hB2.size
  have s3 := hB3.size
  clear hB1 hB2 hB3 hX2
  go_wp2_with fail
  refine (TDone_calls T _ 0 none _ hT (.inl rfl)).mono ?_
  rintro e w4 ⟨rfl, h⟩
  subst h
  go_wp2_with fail
  refine (step_loadPush T C S g nTC nCg (by omega) nTg 0 1 HW1.out none 7 0 none none _ hT hC hS (.inl rfl) (fun b hb => by cases hb) hg).mono ?_
  rintro e w5 ⟨rfl, P, zP, hP, hT, hC, hO⟩
  have lP := hP.lt
  have hS := hS.only hO (by simp; omega)
  have hU := hU.only hO (by simp; omega)
  have hD := hD.only hO (by simp; omega)
  have s5 := hO.size
  have hX5 := hX3.trans (hO.below (n := w.heap.size) (by simp; omega) (by omega))
  clear hX3 hO hg
  go_wp2_with fail
  refine (step_swap T C S nTC (by omega) (by omega) _ 1 2 HW2.out none (some ⟨P, 0, none⟩) 7 _ hT hC hS (.inl rfl) (fun b hb => by cases hb) (.inr ⟨P, _, rfl, hP, rfl⟩) (fun b hb => by injection hb with hb; injection hb with hb _ _; omega)).mono ?_
  rintro e w6 ⟨rfl, O, zO, hOb, hT, hS, hO⟩
  have lO := hOb.lt
  have hP := hP.only hO (by simp; omega)
  have hU := hU.only hO (by simp; omega)
  have hD := hD.only hO (by simp; omega)
  have s6 := hO.size
  have hX6 := hX5.trans (hO.below (n := w.heap.size) (by simp; omega) (by omega))
  clear hX5 hO hC
  go_wp2_with fail
  refine (TDone_calls T _ 2 (some ⟨O, 0, none⟩) _ hT (.inr ⟨O, _, rfl, hOb, rfl⟩)).mono ?_
  rintro e w7 ⟨rfl, h⟩
  subst h
  go_wp2_with fail
  refine (step_loadPop U D S P nUD (by omega) (by omega) (by omega) 0 1 HW1.out none 7 0 none none _ hU hD hS hP).mono ?_
  rintro e w8 ⟨rfl, hU, hD, hO⟩
  have hP := hP.only hO (by simp; omega)
  have hS := hS.only hO (by simp; omega)
  have hT := hT.only hO (by simp; omega)
  have s8 := hO.size
  have hX8 := hX6.trans (hO.below (n := w.heap.size) (by simp; omega) (by omega))
  clear hX6 hO hOb
  go_wp2_with fail
  refine (step_swap U D S nUD (by omega) (by omega) _ 1 2 HW2.out (some ⟨P, 0, none⟩) none 7 _ hU hD hS (.inr ⟨P, _, rfl, hP, rfl⟩) (fun b hb => by injection hb with hb; injection hb with hb _ _; omega) (.inl rfl) (fun b hb => by cases hb)).mono ?_
  rintro e w9 ⟨rfl, O2, zO2, hO2, hU, hS, hO⟩
  have hT := hT.only hO (by simp; omega)
  have hX9 := hX8.trans (hO.below (n := w.heap.size) (by simp; omega) (by omega))
  have s9 := hO.size
  clear hX8 hO hP hD hS
  go_wp2_with fail
  refine (TResult_calls U _ 2 O2 7 true none 0 0 _ hU hO2).mono ?_
  rintro e w10 ⟨rfl, hB10⟩
  have hT := hT.of_below hB10
  have hX10 := below_step hX9 (by omega) hB10
  clear hX9 hB10 hU hO2
  go_wp2_with fail
  refine (TSteps_calls T _ 2 (some ⟨O, 0, none⟩) _ hT).mono ?_
  rintro e w11 ⟨rfl, h⟩
  subst h
  go_wp2_with fail
  go_ret
  exact ⟨rfl, hX10⟩
end Go.Proofs.Ytecolbdnaipgdaa
