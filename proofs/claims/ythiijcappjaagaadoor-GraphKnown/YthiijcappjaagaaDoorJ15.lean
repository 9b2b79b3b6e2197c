/- slices.AppendSeq and Collect over slices.Values' iterator. -/
import Derived.Test.YthiijcappjaagaaDoorGVals
import Derived.Shelf.Lay
import Derived.Ground.GgzProg
import Derived.Shelf.SlIterI.Sorted
namespace Go.Proofs.YthiijcappjaagaaDoor
open Go.RowKit Go.Shelf Sx
def Tryd.sortedI_ren : Go.Shelf.Ren := ⟨fun | 6 => 69 | 8 => 74 | 9 => 75 | 11 => 80 | 13 => 82 | 12 => 81 | 23 => 93 | 24 => 94 | 14 => 84 | 15 => 85 | 16 => 86 | 17 => 87 | 18 => 88 | 19 => 89 | 20 => 90 | 21 => 91 | 22 => 92 | 25 => 95 | 26 => 96 | 27 => 97 | 28 => 98 | 29 => 99 | 30 => 83 | 31 => 100 | n => n, fun | 26 => 3 | 28 => 72 | 24 => 42 | 0 => 0 | 3 => 3 | 37 => 98 | 48 => 122 | 50 => 47 | 4 => 4 | 40 => 115 | 39 => 114 | 45 => 119 | 5 => 5 | 9 => 9 | 51 => 123 | 55 => 127 | 57 => 129 | 58 => 50 | 33 => 83 | n => n, fun | n => n⟩
theorem Tryd.sortedI : Go.Proofs.SlLaysZI.n6 Tryd.prog Tryd.sortedI_ren := {
  mixed := by kernel_rfl
  f6 := ⟨Tryd.f69.name, by decide, Tryd.func69.trans (congrArg some (by kernel_rfl))⟩
  f8 := ⟨Tryd.f74.name, by decide, Tryd.func74.trans (congrArg some (by kernel_rfl))⟩
  f11 := ⟨Tryd.f80.name, by decide, Tryd.func80.trans (congrArg some (by kernel_rfl))⟩
  t0 := Tryd.underlying0
  a0 := Tryd.isAgg0
  z0 := Tryd.sizeOf0
  v0 := Tryd.zeroValue0
  t24 := Tryd.underlying42
  a24 := Tryd.isAgg42
  z24 := Tryd.sizeOf42
  v24 := Tryd.zeroValue42
  t26 := Tryd.underlying3
  a26 := Tryd.isAgg3
  z26 := Tryd.sizeOf3
  v26 := Tryd.zeroValue3
  t28 := Tryd.underlying72
  a28 := Tryd.isAgg72
  z28 := Tryd.sizeOf72
  v28 := Tryd.zeroValue72
  i26 := by kernel_rfl }
attribute [local go_sem] Oper.semAt_some
set_option linter.unusedSimpArgs false in
set_option maxRecDepth 100000 in
set_option maxHeartbeats 4000000 in
theorem appVals_in (l : List Int) (u : Value) (c n : Nat) (hn : 2 ≤ n) (w : World) (hc : Blk w c 42 #[u]) (h : IntsR w u l) (hN : l.length ≤ maxLen) (hNb : l.length * 8 ≤ 140737488355328) :
    CallsIn Fence.wide n Tryd.prog 80 #[.slice none 0 0, .func (.func 76) #[] #[pv c]] w fun e w' => ∃ v, e = .returned v ∧ w'.ownsRow w.heap.size 3 1 v l.length (encJ l) ∧ Below w.heap.size w w' := by
  have hl : l.length ≤ 9223372036854775807 := by omega
  refine callsIn_of_wp_marks Tryd.func80 rfl trivial ?_ rfl
  simp only [Tryd.ntmps80, List.size_toArray, List.length_cons, List.length_nil, Nat.reduceAdd, Nat.reduceSub, Array.replicate_succ, Array.replicate_zero, List.push_toArray, List.append_toArray, List.nil_append, List.cons_append]
  gi_wp2
  refine wpIn_rangeFunc fun fn hfn => ?_
  obtain ⟨W0, hW0⟩ : ∃ W0, w.alloc (.cells #[.slice none 0 0] 42) = W0 := ⟨_, rfl⟩
  have hs0 : W0.heap.size = w.heap.size + 1 := by rw [← hW0]; simp
  have hv0 : W0.heap[w.heap.size]? = some (.cells #[.slice none 0 0] 42 (0, 0)) := by rw [← hW0]; exact World.alloc_heap_new w _
  have hb0 : Below w.heap.size w W0 := by rw [← hW0]; exact (Below.refl _ w).alloc (Nat.le_refl _) _
  rw [hW0]
  obtain ⟨rc, hrc⟩ : ∃ rc : LoopState → Option Code → Loop, rc = AnyZI.apRec Tryd.sortedI_ren fn (.func (.func 76) #[] #[pv c]) w.heap.size W0.heap.size := ⟨_, rfl⟩
  obtain ⟨W1, hW1⟩ : ∃ W1, (W0.alloc (.deferred (some []))).alloc (.loop (rc .ready none)) = W1 := ⟨_, rfl⟩
  have hL1 : W1.heap[W0.heap.size + 1]? = some (.loop (rc .ready none)) := by
    have := World.alloc_heap_new (W0.alloc (.deferred (some []))) (.loop (rc .ready none))
    rwa [World.size_alloc, hW1] at this
  have hD1 : W1.heap[W0.heap.size]? = some (.deferred (some [])) := by
    rw [← hW1]
    exact (Below.heap_alloc _ _ _ (by simp)).trans (World.alloc_heap_new W0 _)
  have hB1 : W1.heap[w.heap.size]? = some (.cells #[.slice none 0 0] 42 (0, 0)) := by
    rw [← hW1]
    exact (Below.heap_alloc _ _ _ (by simp; omega)).trans ((Below.heap_alloc _ _ _ (by omega)).trans hv0)
  have hb1 : Below w.heap.size w W1 := by
    rw [← hW1]
    exact (hb0.alloc hb0.size _).alloc (by simp; omega) _
  have hM : AnyZI.ApAt Tryd.sortedI_ren w fn (.func (.func 76) #[] #[pv c]) w.heap.size (W0.heap.size + 1) W0.heap.size [] W1 :=
    ⟨⟨_, hB1, ⟨rfl, .inl ⟨rfl, rfl⟩⟩, by simp⟩, by rw [hrc] at hL1; exact hL1, hD1, hb1⟩
  refine ⟨W0.heap.size + 1, [{ target := .collected W0.heap.size, args := #[] }], W1, { target := .fn (.func 76) #[pv c], args := #[.func (.yield (W0.heap.size + 1)) #[] #[]] }, W1, 76,
    #[.func (.yield (W0.heap.size + 1)) #[] #[]] ++ #[pv c], W1, ?_, ?_, fun _ _ => trivial, ?_, fun _ => by omega, ?_⟩
  · rw [← hW1, hrc]; exact run_enterLoop_outer _ _ _ _ _
  · simp [resolve, go_sem]
  · simp [invoke, go_sem, enters_of Tryd.func76 (by kernel_rfl) rfl]
  refine (vals1_in l u c (W0.heap.size + 1) (n - 1) (by omega) w hc h hl (AnyZI.ApAt Tryd.sortedI_ren w fn (.func (.func 76) #[] #[pv c]) w.heap.size (W0.heap.size + 1) W0.heap.size) (fun _ _ k => k.below)
    (fun pre x W hJ hlen => AnyZI.apYield { Tryd.sortedI with } Fence.wide (n - 1 - 1) w fn hfn _ w.heap.size (W0.heap.size + 1) W0.heap.size (by omega) (by omega) (by omega) (Nat.le_refl _) (by omega) l.length hN hNb pre x W hJ hlen) W1 hM).mono ?_
  rintro e W2 ⟨⟨v0, rfl⟩, h2⟩
  obtain ⟨v, hv, hrow, _⟩ := h2.box
  have hend := run_endLoop (P := Tryd.prog) h2.L (by simp [AnyZI.apRec])
  have hg3 := fun o => grownBy_putObj_a W2 (W0.heap.size + 1) o
  have hrow3 := fun o => hrow.kept (hg3 o) (ownsRow_ne_a hrow h2.L (fun cur e => by cases e))
  have hb3 := fun o => h2.below.grown (hg3 o) h2.below.size (fun k e => by cases e; omega)
  have hv3 := fun o => (World.putObj_heap_other (w := W2) (o := o) (show w.heap.size ≠ W0.heap.size + 1 by omega)).trans hv
  have hK3 := fun o => (World.putObj_heap_other (w := W2) (o := o) (show W0.heap.size ≠ W0.heap.size + 1 by omega)).trans h2.K
  refine ⟨none, _, hend, ?_⟩
  generalize hobj : Obj.loop _ = ob
  specialize hrow3 ob
  specialize hb3 ob
  specialize hv3 ob
  specialize hK3 ob
  generalize W2.putObj (W0.heap.size + 1) ob = W3 at *
  obtain ⟨hc3, hf3⟩ := cell_of_box_a hv3
  gi_wp2
  rw [hs0] at hK3
  refine ⟨by simp, .inl ⟨_, _, rfl, run_takeDeferred hK3, ?_⟩⟩
  exact ⟨_, results_tmp rfl _ _ _, v, rfl, hrow3.kept (grownBy_putObj_a _ _ _) (ownsRow_ne_a hrow3 hK3 (fun cur e => by cases e)), hb3.grown (grownBy_putObj_a _ _ _) hb3.size (fun k e => by cases e; omega)⟩
end Go.Proofs.YthiijcappjaagaaDoor
namespace Go.Proofs.YthiijcappjaagaaDoor
open Go.RowKit Go.Shelf Sx
set_option maxRecDepth 100000 in
set_option maxHeartbeats 4000000 in
theorem collVals_calls (l : List Int) (u : Value) (c : Nat) (w : World) (hc : Blk w c 42 #[u]) (h : IntsR w u l) (hN : l.length ≤ maxLen) (hNb : l.length * 8 ≤ 140737488355328) :
    Calls Tryd.prog 74 #[.func (.func 76) #[] #[pv c]] w fun e w' => ∃ v, e = .returned v ∧ w'.ownsRow w.heap.size 3 1 v l.length (encJ l) ∧ Below w.heap.size w w' := by
  have ha := (callsIn_wide (n := 2)).1 (appVals_in l u c 2 (Nat.le_refl _) w hc h hN hNb)
  have HA := hid_of ha
  clear ha hc h
  go_enter Tryd.func74, Tryd.ntmps74
  go_wp2_with fail
  refine HA.out.mono ?_
  rintro e w' ⟨v, rfl, hrow, hb⟩
  go_wp2_with fail
  go_ret
  exact ⟨v, rfl, hrow, hb⟩
theorem slValuesI_calls (u : Value) (w : World) (hu : ∃ p n c, u = .slice p n c) :
    Calls Tryd.prog 70 #[u] w fun e w' => e = .returned (.func (.func 76) #[] #[pv w.heap.size]) ∧ w' = w.alloc (.cells #[u] 42) := by
  obtain ⟨p, n, c, rfl⟩ := hu
  go_enter Tryd.func70, Tryd.ntmps70
  go_wp2_with fail
  go_ret
  exact ⟨rfl, rfl⟩
end Go.Proofs.YthiijcappjaagaaDoor
