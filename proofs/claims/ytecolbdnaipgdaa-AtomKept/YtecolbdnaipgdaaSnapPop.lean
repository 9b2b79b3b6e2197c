/- Push alone, and Pop of an empty stack alone. -/
import Derived.Test.YtecolbdnaipgdaaSnapView
namespace Go.Proofs.Ytecolbdnaipgdaa
open Go.RowKit

set_option maxHeartbeats 1000000 in
theorem fail_calls (T : Nat) (todo : Value) (st : Int) (p : Option Addr) (w : World) (hT : Blk w T 73 (taskA todo st p)) :
    Calls Try.prog 45 #[pv T] w fun e w' => e = .returned (.tuple #[]) ∧ ∃ O, w.heap.size ≤ O ∧ Blk w' T 73 (taskA .nilFunc st (some ⟨O, 0, none⟩)) ∧ Blk w' O 83 (outA 0 false (.slice none 0 0)) ∧ Only [T] w w' := by
  go_enter Try.func45, Try.ntmps45
  go_wp2_with fail
  refine (finish_calls T todo st p 0 false none 0 0 _ hT).mono ?_
  rintro e w1 ⟨rfl, h⟩
  go_wp2_with fail
  go_end0
  exact ⟨rfl, h⟩
set_option maxHeartbeats 1000000 in
theorem Pop1_nil (w : World) : Calls Try.prog 26 #[.pointer none] w fun e w' => e = .returned (.tuple #[.pointer none, .int .u64 0, .bool false]) ∧ Below w.heap.size w w' := by
  go_enter Try.func26, Try.ntmps26
  go_wp2_with fail
  go_ret3
  exact ⟨rfl, Below.refl _ _⟩
set_option maxRecDepth 100000 in
set_option maxHeartbeats 4000000 in
theorem loadPopNil_calls (T C S : Nat) (hTC : T ≠ C) (todo : Value) (st : Int) (t0 : Int) (a0 b0 : Option Addr) (w : World) (hT : Blk w T 73 (taskA todo st none))
    (hC : Blk w C 114 #[pv T, .iface 92 (.pointer (some ⟨S, 0, none⟩)), .func (.func 26) #[] #[], .pointer a0, .pointer b0, .int .u64 t0]) (hS : Blk w S 90 #[.pointer none]) :
    Calls Try.prog 35 #[pv C] w fun e w' => e = .returned (.tuple #[]) ∧ ∃ O, w.heap.size ≤ O ∧ Blk w' O 83 (outA 0 false (.slice none 0 0)) ∧ Blk w' T 73 (taskA .nilFunc st (some ⟨O, 0, none⟩)) ∧ Only [T, C] w w' := by
  have c1 := hC.cell (j := 1) rfl
  have c3 := hC.cell (j := 3) rfl
  have f3 := hC.frozen 3
  go_enter Try.func35, Try.ntmps35
  go_wp2_with fail
  refine (plLoad_calls S 0 none _ (hS.cell (j := 0) rfl) (.inl rfl)).mono ?_
  rintro e w1 ⟨rfl, rfl⟩
  go_wp2_with fail
  have hC1 := hC.set 3 (.pointer none)
  simp only [List.setIfInBounds_toArray, List.set_cons_zero, List.set_cons_succ] at hC1
  have hT1 := hT.setOther (a := ⟨C, 3, none⟩) hTC (.pointer none)
  have hO1 : Only [T, C] w1 (w1.setCell ⟨C, 3, none⟩ (.pointer none)) := Only.set _ (by simp) _ _
  clear c1 c3 f3
  generalize w1.setCell _ _ = W1 at *
  have c2 := hC1.cell (j := 2) rfl
  have c3 := hC1.cell (j := 3) rfl
  go_region_held3 (fun w' => w'.cell? ⟨C, 2, none⟩ = some (.func (.func 26) #[] #[]) ∧ w'.cell? ⟨C, 3, none⟩ = some (.pointer none)) (first | assumption | exact ⟨c2, c3⟩ | exact ⟨(hC2.set _ _).cell rfl, (hC2.set _ _).cell rfl⟩ | exact ⟨((hC2.set _ _).set _ _).cell rfl, ((hC2.set _ _).set _ _).cell rfl⟩)
    (first | (go_at_call 26; refine (Pop1_nil W1.drew).mono ?_; rintro e w2 ⟨rfl, hB2⟩; have hB2 := below_of_drew' hB2; have hC2 := hC1.of_below hB2; have K2 : w2.cell? ⟨C, 2, none⟩ = some (.func (.func 26) #[] #[]) ∧ w2.cell? ⟨C, 3, none⟩ = some (.pointer none) := ⟨hC2.cell rfl, hC2.cell rfl⟩; have e4 := hC2.cell (j := 4) rfl; have e5 := hC2.cell (j := 5) rfl; have f4 := hC2.frozen 4; have f5 := hC2.frozen 5))
  have hC3 := (hC2.set 4 (.pointer none)).set 5 (.int .u64 0)
  simp only [List.setIfInBounds_toArray, List.set_cons_zero, List.set_cons_succ] at hC3
  have hT3 := ((hT1.of_below hB2).setOther (a := ⟨C, 4, none⟩) hTC (.pointer none)).setOther (a := ⟨C, 5, none⟩) hTC (.int .u64 0)
  have hO3 : Only [T, C] W1 ((w2.setCell ⟨C, 4, none⟩ (.pointer none)).setCell ⟨C, 5, none⟩ (.int .u64 0)) := (Only.of_below hB2).trans ((Only.set _ (by simp) _ _).trans (Only.set _ (by simp) _ _))
  clear c2 c3 K2 e4 e5 f4 f5 hC2
  generalize (w2.setCell _ _).setCell _ _ = W3 at *
  have c0 := hC3.cell (j := 0) rfl
  go_wp2_with fail
  refine (fail_calls T _ st none _ hT3).mono ?_
  rintro e w4 ⟨rfl, O, zO, hT4, hOb, hO4⟩
  go_wp2_with fail
  go_end0
  have hz := (hO1.trans hO3).size
  exact ⟨rfl, O, by omega, hOb, hT4, (hO1.trans hO3).trans (hO4.mono (by simp))⟩
set_option maxRecDepth 100000 in
set_option maxHeartbeats 4000000 in
theorem step_popNil (T C S : Nat) (st s1 : Int) (hs1 : IntKind.i64.wrap (st + 1) = s1) (t0 : Int) (a0 b0 : Option Addr) (w : World) (hT : Blk w T 73 (taskA (.func (.func 35) #[pv C] #[]) st none)) (hC : Blk w C 114 #[pv T, .iface 92 (.pointer (some ⟨S, 0, none⟩)), .func (.func 26) #[] #[], .pointer a0, .pointer b0, .int .u64 t0]) (hS : Blk w S 90 #[.pointer none]) :
    Calls Try.prog 15 #[pv T] w fun e w' => e = .returned (.bool true) ∧ ∃ O, w.heap.size ≤ O ∧ Blk w' O 83 (outA 0 false (.slice none 0 0)) ∧ Blk w' T 73 (taskA .nilFunc s1 (some ⟨O, 0, none⟩)) ∧ Only [T, C] w w' := by
  have hTC := hT.ne2 hC (by decide)
  have hTS := hT.ne2 hS (by decide)
  go_enter Try.func15, Try.ntmps15
  go_wp2_with fail
  refine (TDone_calls T _ st none _ hT (.inl rfl)).mono ?_
  rintro e w1 ⟨rfl, h⟩
  have h := h.symm
  subst h
  go_wp2_with fail
  refine (i64Add_calls T 1 st 1 s1 _ (hT.cell (j := 1) rfl) (hT.frozen 1) hs1).mono ?_
  rintro e w2 ⟨rfl, h⟩
  have hT1 := hT.set 1 (.int .i64 s1)
  simp only [List.setIfInBounds_toArray, List.set_cons_zero, List.set_cons_succ] at hT1
  have hC1 := hC.setOther (a := ⟨T, 1, none⟩) (Ne.symm hTC) (.int .i64 s1)
  have hS1 := hS.setOther (a := ⟨T, 1, none⟩) (Ne.symm hTS) (.int .i64 s1)
  have hO1 : Only [T] w (w.setCell ⟨T, 1, none⟩ (.int .i64 s1)) := Only.set _ (by simp) _ _
  clear hs1
  rw [← h] at hT1 hO1 hC1 hS1
  clear h
  have c0 := hT1.cell (j := 0) rfl
  go_wp2_with fail
  refine (loadPopNil_calls T C S hTC _ s1 t0 a0 b0 _ hT1 hC1 hS1).mono ?_
  rintro e w3 ⟨rfl, O, zO, r3, r4, r5⟩
  go_wp2_with fail
  refine (TDone_calls T _ s1 (some ⟨O, 0, none⟩) _ r4 (.inr ⟨O, _, rfl, r3, rfl⟩)).mono ?_
  rintro e w4 ⟨rfl, rfl⟩
  go_wp2_with fail
  go_ret
  have := hO1.size
  exact ⟨rfl, O, by omega, r3, r4, (hO1.mono (by simp)).trans r5⟩
end Go.Proofs.Ytecolbdnaipgdaa
