import Derived.Test.YtdkogbfamdnheaaGreatDoorGVals
namespace Go.Proofs.YtdkogbfamdnheaaGreatDoor
open Go.RowKit Go.Shelf Sx
set_option maxRecDepth 100000
set_option maxHeartbeats 16000000
set_option linter.unusedSimpArgs false
set_option linter.unusedVariables false
def Tryz.sortedI_ren : Go.Shelf.Ren := ⟨fun | 6 => 165 | 8 => 174 | 9 => 175 | 11 => 180 | 13 => 182 | 12 => 181 | 23 => 193 | 24 => 194 | 14 => 184 | 15 => 185 | 16 => 186 | 17 => 187 | 18 => 188 | 19 => 189 | 20 => 190 | 21 => 191 | 22 => 192 | 25 => 195 | 26 => 196 | 27 => 197 | 28 => 198 | 29 => 199 | 30 => 183 | 31 => 200 | n => n, fun | 26 => 3 | 28 => 112 | 24 => 36 | 0 => 0 | 3 => 3 | 37 => 157 | 48 => 199 | 50 => 32 | 4 => 4 | 40 => 192 | 39 => 191 | 45 => 196 | 5 => 5 | 9 => 9 | 51 => 200 | 55 => 204 | 57 => 206 | 58 => 47 | 33 => 100 | n => n, fun | n => n⟩
theorem Tryz.sortedI : Go.Proofs.SlLaysZI.n6 Tryz.prog Tryz.sortedI_ren := {
 mixed := by kernel_rfl
 f6 := ⟨Tryz.f165.name, by decide, Tryz.func165.trans (congrArg some kW)⟩
 f8 := ⟨Tryz.f174.name, by decide, Tryz.func174.trans (congrArg some kW)⟩
 f11 := ⟨Tryz.f180.name, by decide, Tryz.func180.trans (congrArg some kW)⟩
 t0 := Tryz.underlying0
 a0 := Tryz.isAgg0
 z0 := Tryz.sizeOf0
 v0 := Tryz.zeroValue0
 t24 := Tryz.underlying36
 a24 := Tryz.isAgg36
 z24 := Tryz.sizeOf36
 v24 := Tryz.zeroValue36
 t26 := Tryz.underlying3
 a26 := Tryz.isAgg3
 z26 := Tryz.sizeOf3
 v26 := Tryz.zeroValue3
 t28 := Tryz.underlying112
 a28 := Tryz.isAgg112
 z28 := Tryz.sizeOf112
 v28 := Tryz.zeroValue112
 i26 := by kernel_rfl }
attribute [local go_sem] Oper.semAt_some
theorem Qt2 (l : List Int) (u : Value) (c n : Nat) (hn : 2 ≤ n) (w : World) (hc : Blk w c 36 #[u]) (h : IntsR w u l) (hN : l.length ≤ maxLen) (hNb : l.length * 8 ≤ 140737488355328) :
  CallsIn Fence.wide n Tryz.prog 180 #[.slice none 0 0, .func (.func 176) #[] #[pv c]] w fun e w' => ∃ v, e = .returned v ∧ w'.ownsRow w.heap.size 3 1 v l.length (Qaf l) ∧ Below w.heap.size w w' := by
 have hl : l.length ≤ 9223372036854775807 := by omega
 refine callsIn_of_wp_marks Tryz.func180 rfl trivial ?_ rfl
 simp only [Tryz.ntmps180, List.size_toArray, List.length_cons, List.length_nil, Nat.reduceAdd, Nat.reduceSub, Array.replicate_succ, Array.replicate_zero, List.push_toArray, List.append_toArray, List.nil_append, List.cons_append]
 gi_wp2
 refine wpIn_rangeFunc fun fn hfn => ?_
 obtain ⟨W0, hW0⟩ : ∃ W0, w.alloc (.cells #[.slice none 0 0] 36) = W0 := ⟨_, rfl⟩
 have hs0 : W0.heap.size = w.heap.size + 1 := by rw [← hW0]; simp
 have hv0 : W0.heap[w.heap.size]? = some (.cells #[.slice none 0 0] 36 (0, 0)) := by rw [← hW0]; exact World.alloc_heap_new w _
 have hb0 : Below w.heap.size w W0 := by rw [← hW0]; exact (Below.refl _ w).alloc nW _
 rw [hW0]
 obtain ⟨rc, hrc⟩ : ∃ rc : LoopState → Option Code → Loop, rc = AnyZI.apRec Tryz.sortedI_ren fn (.func (.func 176) #[] #[pv c]) w.heap.size W0.heap.size := ⟨_, rfl⟩
 obtain ⟨W1, hW1⟩ : ∃ W1, (W0.alloc (.deferred (some []))).alloc (.loop (rc .ready none)) = W1 := ⟨_, rfl⟩
 have hL1 : W1.heap[W0.heap.size + 1]? = some (.loop (rc .ready none)) := by
  have := World.alloc_heap_new (W0.alloc (.deferred (some []))) (.loop (rc .ready none))
  rwa [World.size_alloc, hW1] at this
 have hD1 : W1.heap[W0.heap.size]? = some (.deferred (some [])) := by
  rw [← hW1]
  exact (Below.heap_alloc _ _ _ sW).trans (World.alloc_heap_new W0 _)
 have hB1 : W1.heap[w.heap.size]? = some (.cells #[.slice none 0 0] 36 (0, 0)) := by
  rw [← hW1]
  exact (Below.heap_alloc _ _ _ (by simp; omega)).trans ((Below.heap_alloc _ _ _ oW).trans hv0)
 have hb1 : Below w.heap.size w W1 := by
  rw [← hW1]
  exact (hb0.alloc hb0.size _).alloc (by simp; omega) _
 have hM : AnyZI.ApAt Tryz.sortedI_ren w fn (.func (.func 176) #[] #[pv c]) w.heap.size (W0.heap.size + 1) W0.heap.size [] W1 :=
  ⟨⟨_, hB1, ⟨rfl, .inl ⟨rfl, rfl⟩⟩, by simp⟩, by rw [hrc] at hL1; exact hL1, hD1, hb1⟩
 refine ⟨W0.heap.size + 1, [{ target := .collected W0.heap.size, args := #[] }], W1, { target := .fn (.func 176) #[pv c], args := #[.func (.yield (W0.heap.size + 1)) #[] #[]] }, W1, 176,
  #[.func (.yield (W0.heap.size + 1)) #[] #[]] ++ #[pv c], W1, ?_, ?_, fun _ _ => trivial, ?_, fun _ => by omega, ?_⟩
 ·rw [← hW1, hrc]; exact run_enterLoop_outer _ _ _ _ _
 ·simp [resolve, go_sem]
 ·simp [invoke, go_sem, enters_of Tryz.func176 kW rfl]
 refine (Qyd l u c (W0.heap.size + 1) (n - 1) oW w hc h hl (AnyZI.ApAt Tryz.sortedI_ren w fn (.func (.func 176) #[] #[pv c]) w.heap.size (W0.heap.size + 1) W0.heap.size) (fun _ _ k => k.below)
  (fun pre x W hJ hlen => AnyZI.apYield { Tryz.sortedI with } Fence.wide (n - 1 - 1) w fn hfn _ w.heap.size (W0.heap.size + 1) W0.heap.size oW oW oW nW oW l.length hN hNb pre x W hJ hlen) W1 hM).mono ?_
 rintro e W2 ⟨⟨v0, rfl⟩, h2⟩
 obtain ⟨v, hv, hrow, _⟩ := h2.box
 have hend := run_endLoop (P := Tryz.prog) h2.L (by simp [AnyZI.apRec])
 have hg3 := fun o => grownBy_putObj_a W2 (W0.heap.size + 1) o
 have hrow3 := fun o => hrow.kept (hg3 o) (ownsRow_ne_a hrow h2.L (fun cur e => by cases e))
 have hb3 := fun o => h2.below.grown (hg3 o) h2.below.size (fun k e => by cases e; omega)
 have hv3 := fun o => (World.putObj_heap_other (w := W2) (o := o) (show w.heap.size ≠ W0.heap.size + 1 by omega)).trans hv
 have hK3 := fun o => (World.putObj_heap_other (w := W2) (o := o) (show W0.heap.size ≠ W0.heap.size + 1 by omega)).trans h2.K
 refine ⟨none, _, hend, ?_⟩
 generalize hobj : Obj.loop _ = ob
 specialize hrow3 ob
 specialize hb3 ob
 specialize hv3 ob
 specialize hK3 ob
 generalize W2.putObj (W0.heap.size + 1) ob = W3 at *
 obtain ⟨hc3, hf3⟩ := cell_of_box_a hv3
 gi_wp2
 rw [hs0] at hK3
 refine ⟨by simp, .inl ⟨_, _, rfl, run_takeDeferred hK3, ?_⟩⟩
 exact ⟨_, results_tmp rfl _ _ _, v, rfl, hrow3.kept (grownBy_putObj_a _ _ _) (ownsRow_ne_a hrow3 hK3 (fun cur e => by cases e)), hb3.grown (grownBy_putObj_a _ _ _) hb3.size (fun k e => by cases e; omega)⟩
end Go.Proofs.YtdkogbfamdnheaaGreatDoor
namespace Go.Proofs.YtdkogbfamdnheaaGreatDoor
open Go.RowKit Go.Shelf Sx
set_option maxRecDepth 100000
set_option maxHeartbeats 16000000
set_option linter.unusedSimpArgs false
set_option linter.unusedVariables false
set_option maxRecDepth 100000 in
theorem Qnc (l : List Int) (u : Value) (c : Nat) (w : World) (hc : Blk w c 36 #[u]) (h : IntsR w u l) (hN : l.length ≤ maxLen) (hNb : l.length * 8 ≤ 140737488355328) :
  Calls Tryz.prog 174 #[.func (.func 176) #[] #[pv c]] w fun e w' => ∃ v, e = .returned v ∧ w'.ownsRow w.heap.size 3 1 v l.length (Qaf l) ∧ Below w.heap.size w w' := by
 have ha := (callsIn_wide (n := 2)).1 (Qt2 l u c 2 nW w hc h hN hNb)
 have HA := Qa ha
 clear ha hc h
 go_enter Tryz.func174, Tryz.ntmps174
 go_wp2_with fail
 refine HA.out.mono ?_
 rintro e w' ⟨v, rfl, hrow, hb⟩
 go_wp2_with fail
 go_ret
 exact ⟨v, rfl, hrow, hb⟩
theorem Qmh (u : Value) (w : World) (hu : ∃ p n c, u = .slice p n c) :
  Calls Tryz.prog 166 #[u] w fun e w' => e = .returned (.func (.func 176) #[] #[pv w.heap.size]) ∧ w' = w.alloc (.cells #[u] 36) := by
 obtain ⟨p, n, c, rfl⟩ := hu
 go_enter Tryz.func166, Tryz.ntmps166
 go_wp2_with fail
 go_ret
 exact ⟨rfl, rfl⟩
end Go.Proofs.YtdkogbfamdnheaaGreatDoor
