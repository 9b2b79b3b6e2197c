/- The contracts of the calls of a cell, in the run of one goroutine. -/
import Derived.Test.YteongihdkdneiaaAtLeaf
namespace Go.Proofs.Yteongihdkdneiaa
open Go.RowKit

/-- All blocks but c are as they were. -/
structure Touch (c : Nat) (w w' : World) : Prop where
  os : w'.os = w.os
  tape : w'.tape = w.tape
  output : w'.output = w.output
  size : w.heap.size ≤ w'.heap.size
  block : ∀ k, k < w.heap.size → k ≠ c → w'.heap[k]? = w.heap[k]?
theorem Touch.of_below {c : Nat} {w w' : World} (h : Below w.heap.size w w') : Touch c w w' := ⟨h.os, h.tape, h.output, h.size, fun k hk _ => h.block k hk⟩
theorem Touch.trans {c : Nat} {w w' w'' : World} (h : Touch c w w') (k : Touch c w' w'') : Touch c w w'' :=
  ⟨k.os.trans h.os, k.tape.trans h.tape, k.output.trans h.output, Nat.le_trans h.size k.size, fun i hi hne => (k.block i (Nat.lt_of_lt_of_le hi h.size) hne).trans (h.block i hi hne)⟩
theorem Touch.set (w : World) (c j : Nat) (v : Value) : Touch c w (w.setCell ⟨c, j, none⟩ v) :=
  ⟨rfl, rfl, rfl, by simp, fun k _ hne => Below.heap_setCell w _ v k hne⟩
theorem Touch.below {c n : Nat} {w w' : World} (h : Touch c w w') (hc : n ≤ c) (hn : n ≤ w.heap.size) : Below n w w' :=
  ⟨h.os, h.tape, h.output, h.size, fun k hk => h.block k (by omega) (by omega)⟩
theorem Blk.new2 (w : World) (o : Obj) (t : TypeId) (cs : Array Value) : Blk ((w.alloc o).alloc (.cells cs t)) (w.heap.size + 1) t cs := by
  have := Blk.new (w.alloc o) t cs
  simpa using this
theorem Blk.touch {w w' : World} {b c : Nat} {t : TypeId} {cs : Array Value} (h : Blk w b t cs) (ht : Touch c w w') (hne : b ≠ c) : Blk w' b t cs := (ht.block b h.lt hne).trans h
set_option maxHeartbeats 400000 in
theorem Swap1_calls (g : Nat) (x v : Int) (w : World) (hc : w.cell? ⟨g, 0, none⟩ = some (.int .u64 v)) :
    Calls Try.prog 20 #[.int .u64 x, pv g] w fun e w' => e = .returned (.int .u64 (v)) ∧ w' = w := by
  go_enter Try.func20, Try.ntmps20
  go_wp2_with fail
  go_ret
  exact ⟨rfl, rfl⟩
set_option maxHeartbeats 400000 in
theorem Add1_calls (g : Nat) (x v : Int) (w : World) (hc : w.cell? ⟨g, 0, none⟩ = some (.int .u64 v)) :
    Calls Try.prog 21 #[.int .u64 x, pv g] w fun e w' => e = .returned (.int .u64 (IntKind.u64.wrap (x + v))) ∧ w' = w := by
  go_enter Try.func21, Try.ntmps21
  go_wp2_with fail
  go_ret
  exact ⟨rfl, rfl⟩
set_option maxHeartbeats 400000 in
theorem CAS1_calls (g h : Nat) (x o v : Int) (w : World) (hc : w.cell? ⟨g, 0, none⟩ = some (.int .u64 o)) (hc2 : w.cell? ⟨h, 0, none⟩ = some (.int .u64 v)) :
    Calls Try.prog 22 #[.int .u64 x, pv g, pv h] w fun e w' => e = .returned (.int .u64 (if x = o then v else x)) ∧ w' = w := by
  by_cases e : x = o
  · rw [if_pos e]
    subst e
    go_enter Try.func22, Try.ntmps22
    go_wp2_with fail
    go_ret
    exact ⟨rfl, rfl⟩
  · rw [if_neg e]
    have e' : (x == o) = false := by rw [beq_eq_false_iff_ne]; exact e
    go_enter Try.func22, Try.ntmps22
    go_wp2_with fail
    go_ret
    exact ⟨rfl, rfl⟩
set_option maxHeartbeats 400000 in
theorem Raise1_calls (g : Nat) (x v : Int) (w : World) (hc : w.cell? ⟨g, 0, none⟩ = some (.int .u64 v)) :
    Calls Try.prog 23 #[.int .u64 x, pv g] w fun e w' => e = .returned (.int .u64 (if x < v then v else x)) ∧ w' = w := by
  by_cases e : x < v
  · rw [if_pos e]
    go_enter Try.func23, Try.ntmps23
    go_wp2_with fail
    go_ret
    exact ⟨rfl, rfl⟩
  · rw [if_neg e]
    have e' : v ≤ x := by omega
    go_enter Try.func23, Try.ntmps23
    go_wp2_with fail
    go_ret
    exact ⟨rfl, rfl⟩
set_option maxHeartbeats 1000000 in
theorem changeSwap1_calls (b g : Nat) (x y : Int) (w : World) (hB : Blk w b 48 #[.int .u64 x]) (hK : Calls Try.prog 20 #[.int .u64 x, pv g] w fun e w' => e = .returned (.int .u64 y) ∧ w' = w) :
    Calls Try.prog 19 #[pv b, .func (.func 20) #[] #[pv g]] w fun e w' => e = .returned (.int .u64 x) ∧ Blk w' b 48 #[.int .u64 y] ∧ Touch b w w' := by
  have c0 := hB.cell (j := 0) rfl
  have f0 := hB.frozen 0
  have HK : Hid (Calls Try.prog 20 #[.int .u64 x, pv g] w fun e w' => e = .returned (.int .u64 y) ∧ w' = w) := hK
  clear hK
  by_cases hy : y = x
  · subst hy
    go_enter Try.func19, Try.ntmps19
    go_wp2_with fail
    go_loopw [5] (fun _ wr => w = wr) (fun _ _ => 0)
    case atStart => rfl
    case round =>
      subst hrel
      go_wp2_with fail
      refine (u64Load_calls b 0 y _ c0).mono ?_
      rintro e w1 ⟨rfl, rfl⟩
      go_wp2_with fail
      refine HK.out.mono ?_
      rintro e w1 ⟨rfl, rfl⟩
      go_wp2_with fail
      go_ret
      exact ⟨rfl, hB, Touch.of_below (Below.refl _ _)⟩
  · have hy' : (y == x) = false := by rw [beq_eq_false_iff_ne]; exact hy
    go_enter Try.func19, Try.ntmps19
    go_wp2_with fail
    go_loopw [5] (fun _ wr => w = wr) (fun _ _ => 0)
    case atStart => rfl
    case round =>
      subst hrel
      go_wp2_with fail
      refine (u64Load_calls b 0 x _ c0).mono ?_
      rintro e w1 ⟨rfl, rfl⟩
      go_wp2_with fail
      refine HK.out.mono ?_
      rintro e w1 ⟨rfl, rfl⟩
      go_wp2_with fail
      refine (u64CAS_calls b 0 x y _ c0 f0).mono ?_
      rintro e w2 ⟨rfl, rfl⟩
      go_wp2_with fail
      go_ret
      exact ⟨rfl, hB.set 0 _, Touch.set _ _ _ _⟩
set_option maxHeartbeats 1000000 in
theorem changeAdd1_calls (b g : Nat) (x y : Int) (w : World) (hB : Blk w b 48 #[.int .u64 x]) (hK : Calls Try.prog 21 #[.int .u64 x, pv g] w fun e w' => e = .returned (.int .u64 y) ∧ w' = w) :
    Calls Try.prog 19 #[pv b, .func (.func 21) #[] #[pv g]] w fun e w' => e = .returned (.int .u64 x) ∧ Blk w' b 48 #[.int .u64 y] ∧ Touch b w w' := by
  have c0 := hB.cell (j := 0) rfl
  have f0 := hB.frozen 0
  have HK : Hid (Calls Try.prog 21 #[.int .u64 x, pv g] w fun e w' => e = .returned (.int .u64 y) ∧ w' = w) := hK
  clear hK
  by_cases hy : y = x
  · subst hy
    go_enter Try.func19, Try.ntmps19
    go_wp2_with fail
    go_loopw [5] (fun _ wr => w = wr) (fun _ _ => 0)
    case atStart => rfl
    case round =>
      subst hrel
      go_wp2_with fail
      refine (u64Load_calls b 0 y _ c0).mono ?_
      rintro e w1 ⟨rfl, rfl⟩
      go_wp2_with fail
      refine HK.out.mono ?_
      rintro e w1 ⟨rfl, rfl⟩
      go_wp2_with fail
      go_ret
      exact ⟨rfl, hB, Touch.of_below (Below.refl _ _)⟩
  · have hy' : (y == x) = false := by rw [beq_eq_false_iff_ne]; exact hy
    go_enter Try.func19, Try.ntmps19
    go_wp2_with fail
    go_loopw [5] (fun _ wr => w = wr) (fun _ _ => 0)
    case atStart => rfl
    case round =>
      subst hrel
      go_wp2_with fail
      refine (u64Load_calls b 0 x _ c0).mono ?_
      rintro e w1 ⟨rfl, rfl⟩
      go_wp2_with fail
      refine HK.out.mono ?_
      rintro e w1 ⟨rfl, rfl⟩
      go_wp2_with fail
      refine (u64CAS_calls b 0 x y _ c0 f0).mono ?_
      rintro e w2 ⟨rfl, rfl⟩
      go_wp2_with fail
      go_ret
      exact ⟨rfl, hB.set 0 _, Touch.set _ _ _ _⟩
set_option maxHeartbeats 1000000 in
theorem changeCAS1_calls (b g h : Nat) (x y : Int) (w : World) (hB : Blk w b 48 #[.int .u64 x]) (hK : Calls Try.prog 22 #[.int .u64 x, pv g, pv h] w fun e w' => e = .returned (.int .u64 y) ∧ w' = w) :
    Calls Try.prog 19 #[pv b, .func (.func 22) #[] #[pv g, pv h]] w fun e w' => e = .returned (.int .u64 x) ∧ Blk w' b 48 #[.int .u64 y] ∧ Touch b w w' := by
  have c0 := hB.cell (j := 0) rfl
  have f0 := hB.frozen 0
  have HK : Hid (Calls Try.prog 22 #[.int .u64 x, pv g, pv h] w fun e w' => e = .returned (.int .u64 y) ∧ w' = w) := hK
  clear hK
  by_cases hy : y = x
  · subst hy
    go_enter Try.func19, Try.ntmps19
    go_wp2_with fail
    go_loopw [5] (fun _ wr => w = wr) (fun _ _ => 0)
    case atStart => rfl
    case round =>
      subst hrel
      go_wp2_with fail
      refine (u64Load_calls b 0 y _ c0).mono ?_
      rintro e w1 ⟨rfl, rfl⟩
      go_wp2_with fail
      refine HK.out.mono ?_
      rintro e w1 ⟨rfl, rfl⟩
      go_wp2_with fail
      go_ret
      exact ⟨rfl, hB, Touch.of_below (Below.refl _ _)⟩
  · have hy' : (y == x) = false := by rw [beq_eq_false_iff_ne]; exact hy
    go_enter Try.func19, Try.ntmps19
    go_wp2_with fail
    go_loopw [5] (fun _ wr => w = wr) (fun _ _ => 0)
    case atStart => rfl
    case round =>
      subst hrel
      go_wp2_with fail
      refine (u64Load_calls b 0 x _ c0).mono ?_
      rintro e w1 ⟨rfl, rfl⟩
      go_wp2_with fail
      refine HK.out.mono ?_
      rintro e w1 ⟨rfl, rfl⟩
      go_wp2_with fail
      refine (u64CAS_calls b 0 x y _ c0 f0).mono ?_
      rintro e w2 ⟨rfl, rfl⟩
      go_wp2_with fail
      go_ret
      exact ⟨rfl, hB.set 0 _, Touch.set _ _ _ _⟩
set_option maxHeartbeats 1000000 in
theorem changeRaise1_calls (b g : Nat) (x y : Int) (w : World) (hB : Blk w b 48 #[.int .u64 x]) (hK : Calls Try.prog 23 #[.int .u64 x, pv g] w fun e w' => e = .returned (.int .u64 y) ∧ w' = w) :
    Calls Try.prog 19 #[pv b, .func (.func 23) #[] #[pv g]] w fun e w' => e = .returned (.int .u64 x) ∧ Blk w' b 48 #[.int .u64 y] ∧ Touch b w w' := by
  have c0 := hB.cell (j := 0) rfl
  have f0 := hB.frozen 0
  have HK : Hid (Calls Try.prog 23 #[.int .u64 x, pv g] w fun e w' => e = .returned (.int .u64 y) ∧ w' = w) := hK
  clear hK
  by_cases hy : y = x
  · subst hy
    go_enter Try.func19, Try.ntmps19
    go_wp2_with fail
    go_loopw [5] (fun _ wr => w = wr) (fun _ _ => 0)
    case atStart => rfl
    case round =>
      subst hrel
      go_wp2_with fail
      refine (u64Load_calls b 0 y _ c0).mono ?_
      rintro e w1 ⟨rfl, rfl⟩
      go_wp2_with fail
      refine HK.out.mono ?_
      rintro e w1 ⟨rfl, rfl⟩
      go_wp2_with fail
      go_ret
      exact ⟨rfl, hB, Touch.of_below (Below.refl _ _)⟩
  · have hy' : (y == x) = false := by rw [beq_eq_false_iff_ne]; exact hy
    go_enter Try.func19, Try.ntmps19
    go_wp2_with fail
    go_loopw [5] (fun _ wr => w = wr) (fun _ _ => 0)
    case atStart => rfl
    case round =>
      subst hrel
      go_wp2_with fail
      refine (u64Load_calls b 0 x _ c0).mono ?_
      rintro e w1 ⟨rfl, rfl⟩
      go_wp2_with fail
      refine HK.out.mono ?_
      rintro e w1 ⟨rfl, rfl⟩
      go_wp2_with fail
      refine (u64CAS_calls b 0 x y _ c0 f0).mono ?_
      rintro e w2 ⟨rfl, rfl⟩
      go_wp2_with fail
      go_ret
      exact ⟨rfl, hB.set 0 _, Touch.set _ _ _ _⟩
set_option maxHeartbeats 1000000 in
theorem CSwap_calls (b : Nat) (x v y : Int) (hy : Hid ((v) = y)) (w : World) (hB : Blk w b 48 #[.int .u64 x]) :
    Calls Try.prog 7 #[pv b, .int .u64 v] w fun e w' => e = .returned (.int .u64 x) ∧ Blk w' b 48 #[.int .u64 y] ∧ Touch b w w' := by
  go_enter Try.func7, Try.ntmps7
  go_wp2_with fail
  refine (changeSwap1_calls b w.heap.size x y _ (hB.alloc _) (by rw [← hy.out]; exact Swap1_calls _ x v _ ((Blk.new w 22 _).cell rfl))).mono ?_
  rintro e w1 ⟨rfl, h1, h2⟩
  go_wp2_with fail
  go_ret
  exact ⟨rfl, h1, (Touch.of_below ((Below.refl _ w).alloc (Nat.le_refl _) _)).trans h2⟩
set_option maxHeartbeats 1000000 in
theorem CAdd_calls (b : Nat) (x v y : Int) (hy : Hid ((IntKind.u64.wrap (x + v)) = y)) (w : World) (hB : Blk w b 48 #[.int .u64 x]) :
    Calls Try.prog 8 #[pv b, .int .u64 v] w fun e w' => e = .returned (.int .u64 x) ∧ Blk w' b 48 #[.int .u64 y] ∧ Touch b w w' := by
  go_enter Try.func8, Try.ntmps8
  go_wp2_with fail
  refine (changeAdd1_calls b w.heap.size x y _ (hB.alloc _) (by rw [← hy.out]; exact Add1_calls _ x v _ ((Blk.new w 22 _).cell rfl))).mono ?_
  rintro e w1 ⟨rfl, h1, h2⟩
  go_wp2_with fail
  go_ret
  exact ⟨rfl, h1, (Touch.of_below ((Below.refl _ w).alloc (Nat.le_refl _) _)).trans h2⟩
set_option maxHeartbeats 1000000 in
theorem CRaise_calls (b : Nat) (x v y : Int) (hy : Hid ((if x < v then v else x) = y)) (w : World) (hB : Blk w b 48 #[.int .u64 x]) :
    Calls Try.prog 10 #[pv b, .int .u64 v] w fun e w' => e = .returned (.int .u64 x) ∧ Blk w' b 48 #[.int .u64 y] ∧ Touch b w w' := by
  go_enter Try.func10, Try.ntmps10
  go_wp2_with fail
  refine (changeRaise1_calls b w.heap.size x y _ (hB.alloc _) (by rw [← hy.out]; exact Raise1_calls _ x v _ ((Blk.new w 22 _).cell rfl))).mono ?_
  rintro e w1 ⟨rfl, h1, h2⟩
  go_wp2_with fail
  go_ret
  exact ⟨rfl, h1, (Touch.of_below ((Below.refl _ w).alloc (Nat.le_refl _) _)).trans h2⟩
set_option maxHeartbeats 1000000 in
theorem CCAS_calls (b : Nat) (x o v y : Int) (hy : Hid ((if x = o then v else x) = y)) (w : World) (hB : Blk w b 48 #[.int .u64 x]) :
    Calls Try.prog 9 #[pv b, .int .u64 o, .int .u64 v] w fun e w' => e = .returned (.int .u64 x) ∧ Blk w' b 48 #[.int .u64 y] ∧ Touch b w w' := by
  go_enter Try.func9, Try.ntmps9
  go_wp2_with fail
  refine (changeCAS1_calls b w.heap.size (w.heap.size + 1) x y _ ((hB.alloc _).alloc _) (by rw [← hy.out]; exact CAS1_calls _ _ x o v _ (((Blk.new w 22 _).alloc _).cell rfl) ((Blk.new2 w _ 22 _).cell rfl))).mono ?_
  rintro e w1 ⟨rfl, h1, h2⟩
  go_wp2_with fail
  go_ret
  exact ⟨rfl, h1, (Touch.of_below (((Below.refl _ w).alloc (Nat.le_refl _) _).alloc (by simp) _)).trans h2⟩
set_option maxHeartbeats 1000000 in
theorem CStore_calls (b : Nat) (x v : Int) (w : World) (hB : Blk w b 48 #[.int .u64 x]) :
    Calls Try.prog 6 #[pv b, .int .u64 v] w fun e w' => e = .returned (.tuple #[]) ∧ Blk w' b 48 #[.int .u64 v] ∧ Touch b w w' := by
  go_enter Try.func6, Try.ntmps6
  go_wp2_with fail
  refine (CSwap_calls b x v v rfl _ hB).mono ?_
  rintro e w1 ⟨rfl, h1, h2⟩
  go_wp2_with fail
  go_end0
  exact ⟨rfl, h1, h2⟩
set_option maxHeartbeats 1000000 in
theorem CLoad_calls (b : Nat) (x : Int) (w : World) (hB : Blk w b 48 #[.int .u64 x]) :
    Calls Try.prog 11 #[pv b] w fun e w' => e = .returned (.int .u64 x) ∧ w' = w := by
  have c0 := hB.cell (j := 0) rfl
  go_enter Try.func11, Try.ntmps11
  go_wp2_with fail
  refine (u64Load_calls b 0 x _ c0).mono ?_
  rintro e w1 ⟨rfl, rfl⟩
  go_wp2_with fail
  go_ret
  exact ⟨rfl, rfl⟩
set_option maxHeartbeats 1000000 in
theorem NewCell_calls (v : Int) (w : World) :
    Calls Try.prog 5 #[.int .u64 v] w fun e w' => ∃ b, e = .returned (pv b) ∧ Blk w' b 48 #[.int .u64 v] ∧ w.heap.size ≤ b ∧ Below w.heap.size w w' := by
  go_enter Try.func5, Try.ntmps5
  go_wp2_with fail
  refine (CStore_calls w.heap.size 0 v _ (Blk.new w 48 _)).mono ?_
  rintro e w1 ⟨rfl, h1, h2⟩
  go_wp2_with fail
  go_ret
  exact ⟨_, rfl, h1, Nat.le_refl _, ((Below.refl _ w).alloc (Nat.le_refl _) _).trans (h2.below (Nat.le_refl _) (by simp))⟩
end Go.Proofs.Yteongihdkdneiaa
