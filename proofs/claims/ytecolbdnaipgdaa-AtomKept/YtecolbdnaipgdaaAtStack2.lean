/- Swaps and steps of a stack's tasks, in the run of one goroutine. -/
import Derived.Test.YtecolbdnaipgdaaAtStack
namespace Go.Proofs.Ytecolbdnaipgdaa
open Go.RowKit

theorem cas_method (S : Nat) (w : World) : (method 251 92 (.pointer (some ⟨S, 0, none⟩)) "CompareAndSwap").run Try.prog w = .ok (65, .pointer (some ⟨S, 0, none⟩)) w := by kernel_rfl
set_option maxRecDepth 100000 in
set_option maxHeartbeats 4000000 in
theorem swap_calls (T C S : Nat) (hTC : T ≠ C) (hCS : C ≠ S) (hTS : T ≠ S) (todo rl : Value) (st : Int) (p q : Option Addr) (v : Int) (w : World) (hT : Blk w T 73 (taskA todo st none))
    (hC : Blk w C 114 #[pv T, .iface 92 (.pointer (some ⟨S, 0, none⟩)), rl, .pointer p, .pointer q, .int .u64 v]) (hS : Blk w S 90 #[.pointer p]) (hp : PtrTo w 94 2 p) (hq : PtrTo w 94 2 q) :
    Calls Try.prog 44 #[pv C] w fun e w' => e = .returned (.tuple #[]) ∧ ∃ O, w.heap.size ≤ O ∧ Blk w' O 83 (outA v true (.slice none 0 0)) ∧ Blk w' T 73 (taskA .nilFunc st (some ⟨O, 0, none⟩)) ∧ Blk w' S 90 #[.pointer q] ∧ Only [T, S] w w' := by
  have hm := cas_method S
  have c1 := hC.cell (j := 1) rfl
  have c3 := hC.cell (j := 3) rfl
  have c4 := hC.cell (j := 4) rfl
  go_enter Try.func44, Try.ntmps44
  go_wp2_with fail
  go_region_held3 (fun w' => w'.cell? ⟨C, 1, none⟩ = some (.iface 92 (.pointer (some ⟨S, 0, none⟩))) ∧ w'.cell? ⟨C, 3, none⟩ = some (.pointer p) ∧ w'.cell? ⟨C, 4, none⟩ = some (.pointer q)) (first | assumption | exact ⟨c1, c3, c4⟩)
    (first | (go_at_call 65; refine (plCAS_calls S 0 p q w.drew (hS.drew.cell (j := 0) rfl) (hS.drew.frozen 0) hp hq).mono ?_; rintro e w1 ⟨rfl, rfl⟩; have hC1 := hC.drew.setOther (a := ⟨S, 0, none⟩) hCS (.pointer q); have K1 : (w.drew.setCell ⟨S, 0, none⟩ (.pointer q)).cell? ⟨C, 1, none⟩ = some (.iface 92 (.pointer (some ⟨S, 0, none⟩))) ∧ (w.drew.setCell ⟨S, 0, none⟩ (.pointer q)).cell? ⟨C, 3, none⟩ = some (.pointer p) ∧ (w.drew.setCell ⟨S, 0, none⟩ (.pointer q)).cell? ⟨C, 4, none⟩ = some (.pointer q) := ⟨hC1.cell rfl, hC1.cell rfl, hC1.cell rfl⟩))
  have hS1 := (hS.set 0 (.pointer q)).drew
  have hT1 := (hT.setOther (a := ⟨S, 0, none⟩) hTS (.pointer q)).drew
  have hC1 := (hC.setOther (a := ⟨S, 0, none⟩) hCS (.pointer q)).drew
  have hO1 : Only [T, S] w (w.setCell ⟨S, 0, none⟩ (.pointer q)).drew := (Only.set _ (by simp) _ _).trans (Only.drew _ _)
  clear c1 c3 c4 K1 hm
  generalize (w.setCell _ _).drew = W1 at *
  have c0 := hC1.cell (j := 0) rfl
  have c5 := hC1.cell (j := 5) rfl
  go_wp2_with fail
  go_region_held3 (fun w' => w'.cell? ⟨C, 0, none⟩ = some (pv T) ∧ w'.cell? ⟨C, 5, none⟩ = some (.int .u64 v)) (first | assumption | exact ⟨c0, c5⟩)
    (first | (go_at_call 42; refine (succeed_calls T todo st none v W1.drew hT1.drew).mono ?_; rintro e w2 ⟨rfl, O, hO, hT2, hOb, hO2⟩; have hC2 := hC1.drew.only hO2 (by simp; exact Ne.symm hTC); have K2 : w2.cell? ⟨C, 0, none⟩ = some (pv T) ∧ w2.cell? ⟨C, 5, none⟩ = some (.int .u64 v) := ⟨hC2.cell rfl, hC2.cell rfl⟩))
  have hS2 := hS1.drew.only hO2 (by simp; exact Ne.symm hTS)
  have hOw : w.heap.size ≤ O := Nat.le_trans hO1.size hO
  go_wp2_with fail
  go_end0
  exact ⟨rfl, O, hOw, hOb, hT2, hS2, hO1.trans ((Only.drew _ _).trans (hO2.mono (by simp)))⟩
set_option maxRecDepth 100000 in
set_option maxHeartbeats 4000000 in
theorem step_loadPush (T C S g : Nat) (hTC : T ≠ C) (hCg : C ≠ g) (hTS : T ≠ S) (hTg : T ≠ g) (st s1 : Int) (hs1 : IntKind.i64.wrap (st + 1) = s1) (p : Option Addr) (v t0 : Int) (a0 b0 : Option Addr) (w : World) (hT : Blk w T 73 (taskA (.func (.func 35) #[pv C] #[]) st none)) (hC : Blk w C 114 #[pv T, .iface 92 (.pointer (some ⟨S, 0, none⟩)), .func (.func 25) #[] #[pv g], .pointer a0, .pointer b0, .int .u64 t0]) (hS : Blk w S 90 #[.pointer p]) (hp : PtrTo w 94 2 p) (hpT : ∀ b, p = some ⟨b, 0, none⟩ → b ≠ T) (hg : Blk w g 22 #[.int .u64 v]) :
    Calls Try.prog 15 #[pv T] w fun e w' => e = .returned (.bool false) ∧ ∃ P, w.heap.size ≤ P ∧ Blk w' P 94 #[.int .u64 v, .pointer p] ∧ Blk w' T 73 (taskA (.func (.func 44) #[pv C] #[]) s1 none) ∧ Blk w' C 114 #[pv T, .iface 92 (.pointer (some ⟨S, 0, none⟩)), .func (.func 25) #[] #[pv g], .pointer p, pv P, .int .u64 v] ∧ Only [T, C] w w' := by
  go_enter Try.func15, Try.ntmps15
  go_wp2_with fail
  refine (TDone_calls T _ st none _ hT (.inl rfl)).mono ?_
  rintro e w1 ⟨rfl, h⟩
  have h := h.symm
  subst h
  go_wp2_with fail
  refine (i64Add_calls T 1 st 1 s1 _ (hT.cell (j := 1) rfl) (hT.frozen 1) hs1).mono ?_
  rintro e w2 ⟨rfl, h⟩
  have hT1 := hT.set 1 (.int .i64 s1)
  simp only [List.setIfInBounds_toArray, List.set_cons_zero, List.set_cons_succ] at hT1
  have hC1 := hC.setOther (a := ⟨T, 1, none⟩) (Ne.symm hTC) (.int .i64 s1)
  have hS1 := hS.setOther (a := ⟨T, 1, none⟩) (Ne.symm hTS) (.int .i64 s1)
  have hg1 := hg.setOther (a := ⟨T, 1, none⟩) (Ne.symm hTg) (.int .i64 s1)
  have hp1 := hp.only (Only.set (bs := [T]) (c := T) w (by simp) 1 (.int .i64 s1)) (fun b hb => by simp; exact hpT b hb)
  have hO1 : Only [T] w (w.setCell ⟨T, 1, none⟩ (.int .i64 s1)) := Only.set _ (by simp) _ _
  clear hs1
  rw [← h] at hT1 hO1 hC1 hS1 hg1 hp1
  clear h
  have c0 := hT1.cell (j := 0) rfl
  go_wp2_with fail
  refine (loadPush_calls T C S g hTC hCg _ s1 p v t0 a0 b0 _ hT1 hC1 hS1 hp1 hg1).mono ?_
  rintro e w3 ⟨rfl, P, r1, r2, r3, r4, r5⟩
  go_wp2_with fail
  refine (TDone_calls T _ s1 none _ r3 (.inl rfl)).mono ?_
  rintro e w4 ⟨rfl, rfl⟩
  go_wp2_with fail
  go_ret
  exact ⟨rfl, P, Nat.le_trans hO1.size r1, r2, r3, r4, (hO1.mono (by simp)).trans r5⟩
set_option maxRecDepth 100000 in
set_option maxHeartbeats 4000000 in
theorem step_loadPop (T C S P : Nat) (hTC : T ≠ C) (hCP : C ≠ P) (hTS : T ≠ S) (hTP : T ≠ P) (st s1 : Int) (hs1 : IntKind.i64.wrap (st + 1) = s1) (q : Option Addr) (v t0 : Int) (a0 b0 : Option Addr) (w : World) (hT : Blk w T 73 (taskA (.func (.func 35) #[pv C] #[]) st none)) (hC : Blk w C 114 #[pv T, .iface 92 (.pointer (some ⟨S, 0, none⟩)), .func (.func 26) #[] #[], .pointer a0, .pointer b0, .int .u64 t0]) (hS : Blk w S 90 #[pv P]) (hP : Blk w P 94 #[.int .u64 v, .pointer q]) :
    Calls Try.prog 15 #[pv T] w fun e w' => e = .returned (.bool false) ∧ Blk w' T 73 (taskA (.func (.func 44) #[pv C] #[]) s1 none) ∧ Blk w' C 114 #[pv T, .iface 92 (.pointer (some ⟨S, 0, none⟩)), .func (.func 26) #[] #[], pv P, .pointer q, .int .u64 v] ∧ Only [T, C] w w' := by
  go_enter Try.func15, Try.ntmps15
  go_wp2_with fail
  refine (TDone_calls T _ st none _ hT (.inl rfl)).mono ?_
  rintro e w1 ⟨rfl, h⟩
  have h := h.symm
  subst h
  go_wp2_with fail
  refine (i64Add_calls T 1 st 1 s1 _ (hT.cell (j := 1) rfl) (hT.frozen 1) hs1).mono ?_
  rintro e w2 ⟨rfl, h⟩
  have hT1 := hT.set 1 (.int .i64 s1)
  simp only [List.setIfInBounds_toArray, List.set_cons_zero, List.set_cons_succ] at hT1
  have hC1 := hC.setOther (a := ⟨T, 1, none⟩) (Ne.symm hTC) (.int .i64 s1)
  have hS1 := hS.setOther (a := ⟨T, 1, none⟩) (Ne.symm hTS) (.int .i64 s1)
  have hP1 := hP.setOther (a := ⟨T, 1, none⟩) (Ne.symm hTP) (.int .i64 s1)
  have hO1 : Only [T] w (w.setCell ⟨T, 1, none⟩ (.int .i64 s1)) := Only.set _ (by simp) _ _
  clear hs1
  rw [← h] at hT1 hO1 hC1 hS1 hP1
  clear h
  have c0 := hT1.cell (j := 0) rfl
  go_wp2_with fail
  refine (loadPop_calls T C S P hTC hCP _ s1 q v t0 a0 b0 _ hT1 hC1 hS1 hP1).mono ?_
  rintro e w3 ⟨rfl, r3, r4, r5⟩
  go_wp2_with fail
  refine (TDone_calls T _ s1 none _ r3 (.inl rfl)).mono ?_
  rintro e w4 ⟨rfl, rfl⟩
  go_wp2_with fail
  go_ret
  exact ⟨rfl, r3, r4, (hO1.mono (by simp)).trans r5⟩
set_option maxRecDepth 100000 in
set_option maxHeartbeats 4000000 in
theorem step_swap (T C S : Nat) (hTC : T ≠ C) (hCS : C ≠ S) (hTS : T ≠ S) (rl : Value) (st s1 : Int) (hs1 : IntKind.i64.wrap (st + 1) = s1) (p q : Option Addr) (v : Int) (w : World) (hT : Blk w T 73 (taskA (.func (.func 44) #[pv C] #[]) st none)) (hC : Blk w C 114 #[pv T, .iface 92 (.pointer (some ⟨S, 0, none⟩)), rl, .pointer p, .pointer q, .int .u64 v]) (hS : Blk w S 90 #[.pointer p]) (hp : PtrTo w 94 2 p) (hpT : ∀ b, p = some ⟨b, 0, none⟩ → b ≠ T) (hq : PtrTo w 94 2 q) (hqT : ∀ b, q = some ⟨b, 0, none⟩ → b ≠ T) :
    Calls Try.prog 15 #[pv T] w fun e w' => e = .returned (.bool true) ∧ ∃ O, w.heap.size ≤ O ∧ Blk w' O 83 (outA v true (.slice none 0 0)) ∧ Blk w' T 73 (taskA .nilFunc s1 (some ⟨O, 0, none⟩)) ∧ Blk w' S 90 #[.pointer q] ∧ Only [T, S] w w' := by
  go_enter Try.func15, Try.ntmps15
  go_wp2_with fail
  refine (TDone_calls T _ st none _ hT (.inl rfl)).mono ?_
  rintro e w1 ⟨rfl, h⟩
  have h := h.symm
  subst h
  go_wp2_with fail
  refine (i64Add_calls T 1 st 1 s1 _ (hT.cell (j := 1) rfl) (hT.frozen 1) hs1).mono ?_
  rintro e w2 ⟨rfl, h⟩
  have hT1 := hT.set 1 (.int .i64 s1)
  simp only [List.setIfInBounds_toArray, List.set_cons_zero, List.set_cons_succ] at hT1
  have hC1 := hC.setOther (a := ⟨T, 1, none⟩) (Ne.symm hTC) (.int .i64 s1)
  have hS1 := hS.setOther (a := ⟨T, 1, none⟩) (Ne.symm hTS) (.int .i64 s1)
  have hp1 := hp.only (Only.set (bs := [T]) (c := T) w (by simp) 1 (.int .i64 s1)) (fun b hb => by simp; exact hpT b hb)
  have hq1 := hq.only (Only.set (bs := [T]) (c := T) w (by simp) 1 (.int .i64 s1)) (fun b hb => by simp; exact hqT b hb)
  have hO1 : Only [T] w (w.setCell ⟨T, 1, none⟩ (.int .i64 s1)) := Only.set _ (by simp) _ _
  clear hs1
  rw [← h] at hT1 hO1 hC1 hS1 hp1 hq1
  clear h
  have c0 := hT1.cell (j := 0) rfl
  go_wp2_with fail
  refine (swap_calls T C S hTC hCS hTS _ rl s1 p q v _ hT1 hC1 hS1 hp1 hq1).mono ?_
  rintro e w3 ⟨rfl, O, r1, r2, r3, r4, r5⟩
  go_wp2_with fail
  refine (TDone_calls T _ s1 (some ⟨O, 0, none⟩) _ r3 (.inr ⟨O, _, rfl, r2, rfl⟩)).mono ?_
  rintro e w4 ⟨rfl, rfl⟩
  go_wp2_with fail
  go_ret
  exact ⟨rfl, O, Nat.le_trans hO1.size r1, r2, r3, r4, (hO1.mono (by simp)).trans r5⟩
set_option maxHeartbeats 1000000 in
theorem NewStack_calls (w : World) : Calls Try.prog 10 #[] w fun e w' => ∃ S, e = .returned (pv S) ∧ w.heap.size ≤ S ∧ Blk w' S 90 #[.pointer none] ∧ Below w.heap.size w w' := by
  go_enter Try.func10, Try.ntmps10
  go_wp2_with fail
  go_ret
  exact ⟨_, rfl, Nat.le_refl _, Blk.new w _ _, (Below.refl _ w).alloc (Nat.le_refl _) _⟩
set_option maxHeartbeats 1000000 in
theorem Push_calls (S : Nat) (v : Int) (w : World) : Calls Try.prog 11 #[pv S, .int .u64 v] w fun e w' => ∃ T C g, e = .returned (pv T) ∧ w.heap.size ≤ T ∧ w.heap.size ≤ C ∧ w.heap.size ≤ g ∧ T ≠ C ∧ T ≠ g ∧ C ≠ g ∧ Blk w' g 22 #[.int .u64 v] ∧ Blk w' T 73 (taskA (.func (.func 35) #[pv C] #[]) 0 none) ∧
      Blk w' C 114 #[pv T, .iface 92 (.pointer (some ⟨S, 0, none⟩)), .func (.func 25) #[] #[pv g], .pointer none, .pointer none, .int .u64 0] ∧ Below w.heap.size w w' := by
  have hB : Below w.heap.size w (w.alloc (.cells #[.int .u64 v] 22)) := (Below.refl _ w).alloc (Nat.le_refl _) _
  have hg := Blk.new w 22 #[.int .u64 v]
  go_enter Try.func11, Try.ntmps11
  go_wp2_with fail
  refine (newChange_calls S 25 #[pv w.heap.size] _).mono ?_
  rintro e w1 ⟨T, C, rfl, h1, h2, h3, h4, h5, h6⟩
  simp only [World.size_alloc] at h1 h2
  go_wp2_with fail
  go_ret
  exact ⟨T, C, w.heap.size, rfl, by omega, by omega, Nat.le_refl _, h3, by omega, by omega, hg.of_below h6, h4, h5, below_step hB hB.size h6⟩
set_option maxHeartbeats 1000000 in
theorem Pop_calls (S : Nat) (w : World) : Calls Try.prog 12 #[pv S] w fun e w' => ∃ T C, e = .returned (pv T) ∧ w.heap.size ≤ T ∧ w.heap.size ≤ C ∧ T ≠ C ∧ Blk w' T 73 (taskA (.func (.func 35) #[pv C] #[]) 0 none) ∧
      Blk w' C 114 #[pv T, .iface 92 (.pointer (some ⟨S, 0, none⟩)), .func (.func 26) #[] #[], .pointer none, .pointer none, .int .u64 0] ∧ Below w.heap.size w w' := by
  go_enter Try.func12, Try.ntmps12
  go_wp2_with fail
  refine (newChange_calls S 26 #[] _).mono ?_
  rintro e w1 ⟨T, C, rfl, h1, h2, h3, h4, h5, h6⟩
  go_wp2_with fail
  go_ret
  exact ⟨T, C, rfl, h1, h2, h3, h4, h5, h6⟩
end Go.Proofs.Ytecolbdnaipgdaa
