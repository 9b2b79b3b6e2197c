/- The contracts of a task's calls, in the run of one goroutine. -/
import Derived.Test.YtecolbdnaipgdaaAtPtr
import Derived.Laws.Rows
namespace Go.Proofs.Ytecolbdnaipgdaa
open Go.RowKit

/-- All old blocks but those of bs are as they were. -/
structure Only (bs : List Nat) (w w' : World) : Prop where
  os : w'.os = w.os
  tape : w'.tape = w.tape
  output : w'.output = w.output
  size : w.heap.size ≤ w'.heap.size
  block : ∀ k, k < w.heap.size → k ∉ bs → w'.heap[k]? = w.heap[k]?
theorem Only.refl (bs : List Nat) (w : World) : Only bs w w := ⟨rfl, rfl, rfl, Nat.le_refl _, fun _ _ _ => rfl⟩
theorem Only.trans {bs : List Nat} {w w' w'' : World} (h : Only bs w w') (k : Only bs w' w'') : Only bs w w'' :=
  ⟨k.os.trans h.os, k.tape.trans h.tape, k.output.trans h.output, Nat.le_trans h.size k.size, fun i hi hne => (k.block i (Nat.lt_of_lt_of_le hi h.size) hne).trans (h.block i hi hne)⟩
theorem Only.of_below {bs : List Nat} {w w' : World} (h : Below w.heap.size w w') : Only bs w w' := ⟨h.os, h.tape, h.output, h.size, fun k hk _ => h.block k hk⟩
theorem Only.mono {bs cs : List Nat} {w w' : World} (h : Only bs w w') (hs : ∀ k ∈ bs, k ∈ cs) : Only cs w w' := ⟨h.os, h.tape, h.output, h.size, fun k hk hn => h.block k hk fun e => hn (hs k e)⟩
theorem Only.set {bs : List Nat} (w : World) {c : Nat} (hc : c ∈ bs) (j : Nat) (v : Value) : Only bs w (w.setCell ⟨c, j, none⟩ v) :=
  ⟨rfl, rfl, rfl, by simp, fun k _ hne => Below.heap_setCell w _ v k (fun e => hne (by rw [show k = c from e]; exact hc))⟩
theorem Only.alloc (bs : List Nat) (w : World) (o : Obj) : Only bs w (w.alloc o) := Only.of_below ((Below.refl _ w).alloc (Nat.le_refl _) _)
theorem Only.drew (bs : List Nat) (w : World) : Only bs w w.drew := Only.of_below (Below.refl _ w).drew
theorem Only.below {bs : List Nat} {n : Nat} {w w' : World} (h : Only bs w w') (hb : ∀ k ∈ bs, n ≤ k) (hn : n ≤ w.heap.size) : Below n w w' :=
  ⟨h.os, h.tape, h.output, h.size, fun k hk => h.block k (by omega) (fun e => by have := hb k e; omega)⟩
theorem Blk.only {w w' : World} {b : Nat} {t : TypeId} {cs : Array Value} {bs : List Nat} (h : Blk w b t cs) (ho : Only bs w w') (hn : b ∉ bs) : Blk w' b t cs := (ho.block b h.lt hn).trans h
theorem PtrTo.only {w w' : World} {t : TypeId} {n : Nat} {p : Option Addr} {bs : List Nat} (h : PtrTo w t n p) (ho : Only bs w w') (hn : ∀ b, p = some ⟨b, 0, none⟩ → b ∉ bs) : PtrTo w' t n p := by
  rcases h with h | ⟨b, cs, h1, h2, h3⟩
  · exact .inl h
  · exact .inr ⟨b, cs, h1, h2.only ho (hn b h1), h3⟩
theorem store_run {w : World} {a : Addr} {u v : Value} (hv : v.oneCell' = true) (hc : w.cell? a = some u) (hz : w.frozen? a = false) : (store a v).run Try.prog w = .ok () (w.setCell a v) := by
  rw [run_store _ _ _ _ _ hv, hc]
  simp [hz]
abbrev taskA (todo : Value) (st : Int) (p : Option Addr) : Array Value := #[todo, .int .i64 st, .pointer p, .int .u32 0, .int .i32 0, .int .u32 0]
abbrev outA (n : Int) (ok : Bool) (v : Value) : Array Value := #[.int .u64 n, .bool ok, v]

set_option maxHeartbeats 400000 in
theorem TDone_calls (T : Nat) (todo : Value) (st : Int) (p : Option Addr) (w : World) (hT : Blk w T 73 (taskA todo st p)) (hp : PtrTo w 83 3 p) :
    Calls Try.prog 14 #[pv T] w fun e w' => e = .returned (.bool p.isSome) ∧ w' = w := by
  have c2 := hT.cell (j := 2) rfl
  cases p with
  | none =>
    go_enter Try.func14, Try.ntmps14
    go_wp2_with fail
    refine (outLoad_calls T 2 none _ c2 hp).mono ?_
    rintro e w1 ⟨rfl, rfl⟩
    go_wp2_with fail
    go_ret
    exact ⟨rfl, rfl⟩
  | some a =>
    go_enter Try.func14, Try.ntmps14
    go_wp2_with fail
    refine (outLoad_calls T 2 (some a) _ c2 hp).mono ?_
    rintro e w1 ⟨rfl, rfl⟩
    go_wp2_with fail
    go_ret
    exact ⟨rfl, rfl⟩
set_option maxHeartbeats 400000 in
theorem TSteps_calls (T : Nat) (todo : Value) (st : Int) (p : Option Addr) (w : World) (hT : Blk w T 73 (taskA todo st p)) :
    Calls Try.prog 17 #[pv T] w fun e w' => e = .returned (.int .i64 st) ∧ w' = w := by
  have c1 := hT.cell (j := 1) rfl
  go_enter Try.func17, Try.ntmps17
  go_wp2_with fail
  refine (i64Load_calls T 1 st _ c1).mono ?_
  rintro e w1 ⟨rfl, rfl⟩
  go_wp2_with fail
  go_ret
  exact ⟨rfl, rfl⟩
set_option maxHeartbeats 1000000 in
theorem finish_calls (T : Nat) (todo : Value) (st : Int) (p : Option Addr) (n : Int) (ok : Bool) (x : Option Addr) (y z : Nat) (w : World) (hT : Blk w T 73 (taskA todo st p)) :
    Calls Try.prog 34 #[pv T, .agg (outA n ok (.slice x y z))] w fun e w' => e = .returned (.tuple #[]) ∧ ∃ O, w.heap.size ≤ O ∧ Blk w' T 73 (taskA .nilFunc st (some ⟨O, 0, none⟩)) ∧ Blk w' O 83 (outA n ok (.slice x y z)) ∧ Only [T] w w' := by
  have hlt := hT.lt
  have hT1 := hT.alloc (.cells (outA n ok (.slice x y z)) 83)
  have hO := Blk.new w 83 (outA n ok (.slice x y z))
  have c0 := hT1.cell (j := 0) rfl
  have f0 := hT1.frozen 0
  have hs := store_run (v := .nilFunc) rfl c0 f0
  go_enter Try.func34, Try.ntmps34
  go_wp2_with fail
  have hT2 := (hT.set 0 .nilFunc).alloc (.cells (outA n ok (.slice x y z)) 83)
  have hO2 : Blk ((w.setCell ⟨T, 0, none⟩ .nilFunc).alloc (.cells (outA n ok (.slice x y z)) 83)) w.heap.size 83 (outA n ok (.slice x y z)) := by
    have := Blk.new (w.setCell ⟨T, 0, none⟩ .nilFunc) 83 (outA n ok (.slice x y z))
    simpa using this
  have hN2 : Only [T] w ((w.setCell ⟨T, 0, none⟩ .nilFunc).alloc (.cells (outA n ok (.slice x y z)) 83)) := (Only.set _ (by simp) _ _).trans (Only.alloc _ _ _)
  generalize (w.setCell _ _).alloc _ = W2 at *
  refine (outStore_calls T 2 _ (some ⟨w.heap.size, 0, none⟩) _ (hT2.cell (j := 2) rfl) (hT2.frozen 2) (.inr ⟨_, _, rfl, hO2, rfl⟩)).mono ?_
  rintro e w1 ⟨rfl, rfl⟩
  go_wp2_with fail
  go_end0
  exact ⟨rfl, w.heap.size, Nat.le_refl _, hT2.set 2 _, hO2.setOther (by simp; omega) _, hN2.trans (Only.set _ (by simp) _ _)⟩
set_option maxHeartbeats 1000000 in
theorem succeed_calls (T : Nat) (todo : Value) (st : Int) (p : Option Addr) (n : Int) (w : World) (hT : Blk w T 73 (taskA todo st p)) :
    Calls Try.prog 42 #[pv T, .int .u64 n] w fun e w' => e = .returned (.tuple #[]) ∧ ∃ O, w.heap.size ≤ O ∧ Blk w' T 73 (taskA .nilFunc st (some ⟨O, 0, none⟩)) ∧ Blk w' O 83 (outA n true (.slice none 0 0)) ∧ Only [T] w w' := by
  go_enter Try.func42, Try.ntmps42
  go_wp2_with fail
  refine (finish_calls T todo st p n true none 0 0 _ hT).mono ?_
  rintro e w1 ⟨rfl, h⟩
  go_wp2_with fail
  go_end0
  exact ⟨rfl, h⟩
set_option maxHeartbeats 1000000 in
theorem outcome_calls (T : Nat) (todo : Value) (st : Int) (O : Nat) (n : Int) (ok : Bool) (x : Option Addr) (y z : Nat) (w : World) (hT : Blk w T 73 (taskA todo st (some ⟨O, 0, none⟩))) (hO : Blk w O 83 (outA n ok (.slice x y z))) :
    Calls Try.prog 23 #[pv T] w fun e w' => e = .returned (.agg (outA n ok (.slice x y z))) ∧ Below w.heap.size w w' := by
  have hB : Below w.heap.size w (w.alloc (.cells #[.int .u64 0, .bool false, .slice none 0 0] 83)) := (Below.refl _ w).alloc (Nat.le_refl _) _
  have hR := Blk.new w 83 #[.int .u64 0, .bool false, .slice none 0 0]
  have hO1 := hO.alloc (.cells #[.int .u64 0, .bool false, .slice none 0 0] 83)
  have o0 := hO1.cell (j := 0) rfl
  have o1 := hO1.cell (j := 1) rfl
  have o2 := hO1.cell (j := 2) rfl
  go_enter Try.func23, Try.ntmps23
  go_wp2_with fail
  refine (outLoad_calls T 2 (some ⟨O, 0, none⟩) _ ((hT.alloc _).cell (j := 2) rfl) (.inr ⟨_, _, rfl, hO1, rfl⟩)).mono ?_
  rintro e w1 ⟨rfl, rfl⟩
  go_wp2_with fail
  exact bodyPost_ret (results_cell_row rfl _ _ w.heap.size 83 #[.int .u64 n, .bool ok, .slice x y z] (0, 0) _ rfl (Blk.new w 83 _) Try.underlying83 rfl (by kernel_rfl)) rfl ⟨rfl, (Below.refl _ w).alloc (Nat.le_refl _) _⟩
end Go.Proofs.Ytecolbdnaipgdaa
