/- The contracts of a stack's tasks, in the run of one goroutine. -/
import Derived.Test.YtecolbdnaipgdaaAtTask
namespace Go.Proofs.Ytecolbdnaipgdaa
open Go.RowKit

set_option maxHeartbeats 1000000 in
theorem TResult_calls (T : Nat) (todo : Value) (st : Int) (O : Nat) (n : Int) (ok : Bool) (x : Option Addr) (y z : Nat) (w : World) (hT : Blk w T 73 (taskA todo st (some ⟨O, 0, none⟩))) (hO : Blk w O 83 (outA n ok (.slice x y z))) :
    Calls Try.prog 16 #[pv T] w fun e w' => e = .returned (.tuple #[.int .u64 n, .bool ok]) ∧ Below w.heap.size w w' := by
  go_enter Try.func16, Try.ntmps16
  go_wp2_with fail
  refine (outcome_calls T todo st O n ok x y z _ hT hO).mono ?_
  rintro e w1 ⟨rfl, hB⟩
  go_wp2_with fail
  go_quiet (fail)
  go_wp2_with fail
  go_ret2
  exact ⟨rfl, below_drewN (below_step hB hB.size ((Below.refl _ w1).alloc (Nat.le_refl _) _)) _⟩
theorem below_of_drew' {w w' : World} (h : Below w.drew.heap.size w.drew w') : Below w.heap.size w w' := ⟨h.os, h.tape, h.output, h.size, h.block⟩
theorem cellA {w : World} {a : Addr} {v : Value} (h : w.cell? a = some v) {o : Obj} : (w.alloc o).cell? a = some v := (World.cell?_alloc_some w a o (by rw [h]; rfl)).trans h
set_option maxHeartbeats 1000000 in
theorem Push1_calls (g : Nat) (p : Option Addr) (v : Int) (w : World) (hc : w.cell? ⟨g, 0, none⟩ = some (.int .u64 v)) :
    Calls Try.prog 25 #[.pointer p, pv g] w fun e w' => ∃ P, e = .returned (.tuple #[pv P, .int .u64 v, .bool true]) ∧ w.heap.size ≤ P ∧ Blk w' P 94 #[.int .u64 v, .pointer p] ∧ Below w.heap.size w w' := by
  have hc' := cellA hc (o := .cells #[.int .u64 v, .pointer p] 94)
  go_enter Try.func25, Try.ntmps25
  go_wp2_with fail
  go_region
  all_goals
    go_wp2_with fail
    go_ret3
    exact ⟨_, rfl, Nat.le_refl _, Blk.new w 94 _, ((Below.refl _ w).alloc (Nat.le_refl _) _).drew⟩
set_option maxHeartbeats 1000000 in
theorem Pop1_calls (P : Nat) (p : Option Addr) (v : Int) (w : World) (hP : Blk w P 94 #[.int .u64 v, .pointer p]) :
    Calls Try.prog 26 #[pv P] w fun e w' => e = .returned (.tuple #[.pointer p, .int .u64 v, .bool true]) ∧ Below w.heap.size w w' := by
  have c0 := hP.cell (j := 0) rfl
  have c1 := hP.cell (j := 1) rfl
  go_enter Try.func26, Try.ntmps26
  go_wp2_with fail
  go_quiet (fail)
  go_wp2_with fail
  go_ret3
  exact ⟨rfl, below_drewN (Below.refl _ _) _⟩
set_option maxHeartbeats 1000000 in
theorem newChange_calls (S : Nat) (f : FuncId) (caps : Array Value) (w : World) :
    Calls Try.prog 24 #[.iface 92 (.pointer (some ⟨S, 0, none⟩)), .func (.func f) #[] caps] w fun e w' => ∃ T C, e = .returned (pv T) ∧ w.heap.size ≤ T ∧ w.heap.size ≤ C ∧ T ≠ C ∧ Blk w' T 73 (taskA (.func (.func 35) #[pv C] #[]) 0 none) ∧
      Blk w' C 114 #[pv T, .iface 92 (.pointer (some ⟨S, 0, none⟩)), .func (.func f) #[] caps, .pointer none, .pointer none, .int .u64 0] ∧ Below w.heap.size w w' := by
  have hT := (Blk.new w 73 (taskA .nilFunc 0 none)).alloc (.cells #[pv w.heap.size, .iface 92 (.pointer (some ⟨S, 0, none⟩)), .func (.func f) #[] caps, .pointer none, .pointer none, .int .u64 0] 114)
  have hC := Blk.new2 w (.cells (taskA .nilFunc 0 none) 73) 114 #[pv w.heap.size, .iface 92 (.pointer (some ⟨S, 0, none⟩)), .func (.func f) #[] caps, .pointer none, .pointer none, .int .u64 0]
  have hs := store_run (v := .func (.func 35) #[pv (w.heap.size + 1)] #[]) rfl (hT.cell (j := 0) rfl) (hT.frozen 0)
  go_enter Try.func24, Try.ntmps24
  go_wp2_with fail
  go_ret
  exact ⟨w.heap.size, w.heap.size + 1, rfl, by omega, by omega, by omega, (Blk.new w 73 _).alloc _, Blk.new2 w _ _ _, ((Below.refl _ w).alloc (Nat.le_refl _) _).alloc (by simp) _⟩
set_option maxRecDepth 100000 in
set_option maxHeartbeats 4000000 in
theorem loadPush_calls (T C S g : Nat) (hTC : T ≠ C) (hCg : C ≠ g) (todo : Value) (st : Int) (p : Option Addr) (v t0 : Int) (a0 b0 : Option Addr) (w : World) (hT : Blk w T 73 (taskA todo st none))
    (hC : Blk w C 114 #[pv T, .iface 92 (.pointer (some ⟨S, 0, none⟩)), .func (.func 25) #[] #[pv g], .pointer a0, .pointer b0, .int .u64 t0]) (hS : Blk w S 90 #[.pointer p]) (hp : PtrTo w 94 2 p) (hg : Blk w g 22 #[.int .u64 v]) :
    Calls Try.prog 35 #[pv C] w fun e w' => e = .returned (.tuple #[]) ∧ ∃ P, w.heap.size ≤ P ∧ Blk w' P 94 #[.int .u64 v, .pointer p] ∧ Blk w' T 73 (taskA (.func (.func 44) #[pv C] #[]) st none) ∧
      Blk w' C 114 #[pv T, .iface 92 (.pointer (some ⟨S, 0, none⟩)), .func (.func 25) #[] #[pv g], .pointer p, pv P, .int .u64 v] ∧ Only [T, C] w w' := by
  have c1 := hC.cell (j := 1) rfl
  have c3 := hC.cell (j := 3) rfl
  have f3 := hC.frozen 3
  go_enter Try.func35, Try.ntmps35
  go_wp2_with fail
  refine (plLoad_calls S 0 p _ (hS.cell (j := 0) rfl) hp).mono ?_
  rintro e w1 ⟨rfl, rfl⟩
  go_wp2_with fail
  have hC1 := hC.set 3 (.pointer p)
  simp only [List.setIfInBounds_toArray, List.set_cons_zero, List.set_cons_succ] at hC1
  have hT1 := hT.setOther (a := ⟨C, 3, none⟩) hTC (.pointer p)
  have hg1 := hg.setOther (a := ⟨C, 3, none⟩) (Ne.symm hCg) (.pointer p)
  have hO1 : Only [T, C] w1 (w1.setCell ⟨C, 3, none⟩ (.pointer p)) := Only.set _ (by simp) _ _
  have hsz : w1.heap.size ≤ (w1.setCell ⟨C, 3, none⟩ (.pointer p)).heap.size := hO1.size
  clear c1 c3 f3
  generalize w1.setCell _ _ = W1 at *
  have c2 := hC1.cell (j := 2) rfl
  have c3 := hC1.cell (j := 3) rfl
  go_region_held3 (fun w' => w'.cell? ⟨C, 2, none⟩ = some (.func (.func 25) #[] #[pv g]) ∧ w'.cell? ⟨C, 3, none⟩ = some (.pointer p)) (first | assumption | exact ⟨c2, c3⟩ | exact ⟨(hC2.set _ _).cell rfl, (hC2.set _ _).cell rfl⟩ | exact ⟨((hC2.set _ _).set _ _).cell rfl, ((hC2.set _ _).set _ _).cell rfl⟩)
    (first | (go_at_call 25; refine (Push1_calls g p v W1.drew (hg1.drew.cell (j := 0) rfl)).mono ?_; rintro e w2 ⟨P, rfl, hPl, hPB, hB2⟩; have hB2 := below_of_drew' hB2; have hC2 := hC1.of_below hB2; have K2 : w2.cell? ⟨C, 2, none⟩ = some (.func (.func 25) #[] #[pv g]) ∧ w2.cell? ⟨C, 3, none⟩ = some (.pointer p) := ⟨hC2.cell rfl, hC2.cell rfl⟩; have e4 := hC2.cell (j := 4) rfl; have e5 := hC2.cell (j := 5) rfl; have f4 := hC2.frozen 4; have f5 := hC2.frozen 5))
  have hC3 := (hC2.set 4 (pv P)).set 5 (.int .u64 v)
  simp only [List.setIfInBounds_toArray, List.set_cons_zero, List.set_cons_succ] at hC3
  have hT3 := ((hT1.of_below hB2).setOther (a := ⟨C, 4, none⟩) hTC (pv P)).setOther (a := ⟨C, 5, none⟩) hTC (.int .u64 v)
  have hPC : P ≠ C := by have := hC1.lt; have h5 : W1.heap.size ≤ P := hPl; omega
  have hPT : P ≠ T := by have := hT1.lt; have h5 : W1.heap.size ≤ P := hPl; omega
  have hP3 := (hPB.setOther (a := ⟨C, 4, none⟩) hPC (pv P)).setOther (a := ⟨C, 5, none⟩) hPC (.int .u64 v)
  have hPw : w1.heap.size ≤ P := Nat.le_trans hsz hPl
  have hO3 : Only [T, C] W1 ((w2.setCell ⟨C, 4, none⟩ (pv P)).setCell ⟨C, 5, none⟩ (.int .u64 v)) := (Only.of_below hB2).trans ((Only.set _ (by simp) _ _).trans (Only.set _ (by simp) _ _))
  clear c2 c3 K2 e4 e5 f4 f5 hC2
  generalize (w2.setCell _ _).setCell _ _ = W3 at *
  have c0 := hC3.cell (j := 0) rfl
  have hs := store_run (v := .func (.func 44) #[pv C] #[]) rfl (hT3.cell (j := 0) rfl) (hT3.frozen 0)
  go_wp2_with fail
  go_end0
  exact ⟨rfl, P, hPw, hP3.setOther hPT _, hT3.set 0 _, hC3.setOther (Ne.symm hTC) _, (hO1.trans hO3).trans (Only.set _ (by simp) _ _)⟩
set_option maxRecDepth 100000 in
set_option maxHeartbeats 4000000 in
theorem loadPop_calls (T C S P : Nat) (hTC : T ≠ C) (hCP : C ≠ P) (todo : Value) (st : Int) (q : Option Addr) (v t0 : Int) (a0 b0 : Option Addr) (w : World) (hT : Blk w T 73 (taskA todo st none))
    (hC : Blk w C 114 #[pv T, .iface 92 (.pointer (some ⟨S, 0, none⟩)), .func (.func 26) #[] #[], .pointer a0, .pointer b0, .int .u64 t0]) (hS : Blk w S 90 #[pv P]) (hP : Blk w P 94 #[.int .u64 v, .pointer q]) :
    Calls Try.prog 35 #[pv C] w fun e w' => e = .returned (.tuple #[]) ∧ Blk w' T 73 (taskA (.func (.func 44) #[pv C] #[]) st none) ∧
      Blk w' C 114 #[pv T, .iface 92 (.pointer (some ⟨S, 0, none⟩)), .func (.func 26) #[] #[], pv P, .pointer q, .int .u64 v] ∧ Only [T, C] w w' := by
  have c1 := hC.cell (j := 1) rfl
  have c3 := hC.cell (j := 3) rfl
  have f3 := hC.frozen 3
  go_enter Try.func35, Try.ntmps35
  go_wp2_with fail
  refine (plLoad_calls S 0 (some ⟨P, 0, none⟩) _ (hS.cell (j := 0) rfl) (.inr ⟨P, _, rfl, hP, rfl⟩)).mono ?_
  rintro e w1 ⟨rfl, rfl⟩
  go_wp2_with fail
  have hC1 := hC.set 3 (pv P)
  simp only [List.setIfInBounds_toArray, List.set_cons_zero, List.set_cons_succ] at hC1
  have hT1 := hT.setOther (a := ⟨C, 3, none⟩) hTC (pv P)
  have hP1 := hP.setOther (a := ⟨C, 3, none⟩) (Ne.symm hCP) (pv P)
  have hO1 : Only [T, C] w1 (w1.setCell ⟨C, 3, none⟩ (pv P)) := Only.set _ (by simp) _ _
  clear c1 c3 f3
  generalize w1.setCell _ _ = W1 at *
  have c2 := hC1.cell (j := 2) rfl
  have c3 := hC1.cell (j := 3) rfl
  go_region_held3 (fun w' => w'.cell? ⟨C, 2, none⟩ = some (.func (.func 26) #[] #[]) ∧ w'.cell? ⟨C, 3, none⟩ = some (pv P)) (first | assumption | exact ⟨c2, c3⟩ | exact ⟨(hC2.set _ _).cell rfl, (hC2.set _ _).cell rfl⟩ | exact ⟨((hC2.set _ _).set _ _).cell rfl, ((hC2.set _ _).set _ _).cell rfl⟩)
    (first | (go_at_call 26; refine (Pop1_calls P q v W1.drew hP1.drew).mono ?_; rintro e w2 ⟨rfl, hB2⟩; have hB2 := below_of_drew' hB2; have hC2 := hC1.of_below hB2; have K2 : w2.cell? ⟨C, 2, none⟩ = some (.func (.func 26) #[] #[]) ∧ w2.cell? ⟨C, 3, none⟩ = some (pv P) := ⟨hC2.cell rfl, hC2.cell rfl⟩; have e4 := hC2.cell (j := 4) rfl; have e5 := hC2.cell (j := 5) rfl; have f4 := hC2.frozen 4; have f5 := hC2.frozen 5))
  have hC3 := (hC2.set 4 (.pointer q)).set 5 (.int .u64 v)
  simp only [List.setIfInBounds_toArray, List.set_cons_zero, List.set_cons_succ] at hC3
  have hT3 := ((hT1.of_below hB2).setOther (a := ⟨C, 4, none⟩) hTC (.pointer q)).setOther (a := ⟨C, 5, none⟩) hTC (.int .u64 v)
  have hO3 : Only [T, C] W1 ((w2.setCell ⟨C, 4, none⟩ (.pointer q)).setCell ⟨C, 5, none⟩ (.int .u64 v)) := (Only.of_below hB2).trans ((Only.set _ (by simp) _ _).trans (Only.set _ (by simp) _ _))
  clear c2 c3 K2 e4 e5 f4 f5 hC2
  generalize (w2.setCell _ _).setCell _ _ = W3 at *
  have c0 := hC3.cell (j := 0) rfl
  have hs := store_run (v := .func (.func 44) #[pv C] #[]) rfl (hT3.cell (j := 0) rfl) (hT3.frozen 0)
  go_wp2_with fail
  go_end0
  exact ⟨rfl, hT3.set 0 _, hC3.setOther (Ne.symm hTC) _, (hO1.trans hO3).trans (Only.set _ (by simp) _ _)⟩
end Go.Proofs.Ytecolbdnaipgdaa
