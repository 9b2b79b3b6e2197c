/- slices.Sorted over slices.Values' iterator. -/
import Derived.Test.YtlpffpfkapbepaaGreatDoorJ19
import Derived.Shelf.SortM.Plain
import Derived.Shelf.SortM.SortNone
import Derived.Ground.SlgmProg
namespace Go.Proofs.YtlpffpfkapbepaaGreatDoor
open Go.RowKit Go.Shelf Sx
set_option maxRecDepth 100000
set_option maxHeartbeats 16000000
set_option linter.unusedSimpArgs false
set_option linter.unusedVariables false
def Tryz.sortIL_ren : Go.Shelf.Ren := ⟨fun | 5 => 159 | 8 => 166 | 7 => 165 | 19 => 177 | 20 => 178 | 10 => 168 | 11 => 169 | 12 => 170 | 13 => 171 | 14 => 172 | 15 => 173 | 16 => 174 | 17 => 175 | 18 => 176 | 30 => 179 | 31 => 180 | 32 => 181 | 33 => 182 | 34 => 183 | 35 => 167 | 40 => 184 | n => n, fun | 23 => 35 | 25 => 3 | 3 => 3 | 32 => 151 | 22 => 35 | 0 => 0 | 44 => 190 | 46 => 29 | 4 => 4 | 36 => 183 | 35 => 182 | 41 => 187 | 5 => 5 | 9 => 9 | 53 => 191 | 57 => 195 | 63 => 197 | 64 => 48 | n => n, fun | n => n⟩
theorem Tryz.sortIL : Go.Proofs.SlLaysM.n5 Tryz.prog Tryz.sortIL_ren := {
 mixed := by kernel_rfl
 f5 := ⟨Tryz.f159.name, by decide, Tryz.func159.trans (congrArg some (by kernel_rfl))⟩
 f7 := ⟨Tryz.f165.name, by decide, Tryz.func165.trans (congrArg some (by kernel_rfl))⟩
 f8 := Tryz.func166.trans (congrArg some (by kernel_rfl))
 f10 := ⟨Tryz.f168.name, by decide, Tryz.func168.trans (congrArg some (by kernel_rfl))⟩
 f11 := ⟨Tryz.f169.name, by decide, Tryz.func169.trans (congrArg some (by kernel_rfl))⟩
 f12 := ⟨Tryz.f170.name, by decide, Tryz.func170.trans (congrArg some (by kernel_rfl))⟩
 f13 := ⟨Tryz.f171.name, by decide, Tryz.func171.trans (congrArg some (by kernel_rfl))⟩
 f14 := ⟨Tryz.f172.name, by decide, Tryz.func172.trans (congrArg some (by kernel_rfl))⟩
 f15 := ⟨Tryz.f173.name, by decide, Tryz.func173.trans (congrArg some (by kernel_rfl))⟩
 f16 := ⟨Tryz.f174.name, by decide, Tryz.func174.trans (congrArg some (by kernel_rfl))⟩
 f17 := ⟨Tryz.f175.name, by decide, Tryz.func175.trans (congrArg some (by kernel_rfl))⟩
 f18 := ⟨Tryz.f176.name, by decide, Tryz.func176.trans (congrArg some (by kernel_rfl))⟩
 f19 := Tryz.func177.trans (congrArg some (by kernel_rfl))
 f20 := Tryz.func178.trans (congrArg some (by kernel_rfl))
 f30 := ⟨Tryz.f179.name, by decide, Tryz.func179.trans (congrArg some (by kernel_rfl))⟩
 f31 := Tryz.func180.trans (congrArg some (by kernel_rfl))
 f32 := Tryz.func181.trans (congrArg some (by kernel_rfl))
 f33 := ⟨Tryz.f182.name, by decide, Tryz.func182.trans (congrArg some (by kernel_rfl))⟩
 f34 := ⟨Tryz.f183.name, by decide, Tryz.func183.trans (congrArg some (by kernel_rfl))⟩
 f35 := ⟨Tryz.f167.name, by decide, Tryz.func167.trans (congrArg some (by kernel_rfl))⟩
 f40 := ⟨Tryz.f184.name, by decide, Tryz.func184.trans (congrArg some (by kernel_rfl))⟩
 t0 := Tryz.underlying0
 a0 := Tryz.isAgg0
 z0 := Tryz.sizeOf0
 v0 := Tryz.zeroValue0
 t3 := Tryz.underlying3
 a3 := Tryz.isAgg3
 z3 := Tryz.sizeOf3
 v3 := Tryz.zeroValue3
 t4 := Tryz.underlying4
 a4 := Tryz.isAgg4
 z4 := Tryz.sizeOf4
 v4 := Tryz.zeroValue4
 t5 := Tryz.underlying5
 a5 := Tryz.isAgg5
 z5 := Tryz.sizeOf5
 v5 := Tryz.zeroValue5
 t9 := Tryz.underlying9
 a9 := Tryz.isAgg9
 z9 := Tryz.sizeOf9
 v9 := Tryz.zeroValue9
 t22 := Tryz.underlying35
 a22 := Tryz.isAgg35
 z22 := Tryz.sizeOf35
 v22 := Tryz.zeroValue35
 t23 := Tryz.underlying35
 a23 := Tryz.isAgg35
 z23 := Tryz.sizeOf35
 v23 := Tryz.zeroValue35
 t25 := Tryz.underlying3
 a25 := Tryz.isAgg3
 z25 := Tryz.sizeOf3
 v25 := Tryz.zeroValue3
 t32 := Tryz.underlying151
 a32 := Tryz.isAgg151
 z32 := Tryz.sizeOf151
 v32 := Tryz.zeroValue151
 t35 := Tryz.underlying182
 a35 := Tryz.isAgg182
 z35 := Tryz.sizeOf182
 v35 := Tryz.zeroValue182
 t36 := Tryz.underlying183
 a36 := Tryz.isAgg183
 z36 := Tryz.sizeOf183
 v36 := Tryz.zeroValue183
 t41 := Tryz.underlying187
 a41 := Tryz.isAgg187
 z41 := Tryz.sizeOf187
 v41 := Tryz.zeroValue187
 t44 := Tryz.underlying190
 a44 := Tryz.isAgg190
 z44 := Tryz.sizeOf190
 v44 := Tryz.zeroValue190
 t46 := Tryz.underlying29
 a46 := Tryz.isAgg29
 z46 := Tryz.sizeOf29
 v46 := Tryz.zeroValue29
 t53 := Tryz.underlying191
 a53 := Tryz.isAgg191
 z53 := Tryz.sizeOf191
 v53 := Tryz.zeroValue191
 t57 := Tryz.underlying195
 a57 := Tryz.isAgg195
 z57 := Tryz.sizeOf195
 v57 := Tryz.zeroValue195
 t63 := Tryz.underlying197
 a63 := Tryz.isAgg197
 z63 := Tryz.sizeOf197
 v63 := Tryz.zeroValue197
 t64 := Tryz.underlying48
 a64 := Tryz.isAgg48
 z64 := Tryz.sizeOf48
 v64 := Tryz.zeroValue48 }
def Qdb (l : List Int) : List Int := l.mergeSort (fun x y => decide (x ≤ y))
theorem Qpk (blk off cap : Nat) (l : List Int) (w : World) (hH : Go.Sort.Holds (Value.int .i64) w blk off l.toArray) (hblk : blk < w.heap.size) (hsz : l.length < 4611686018427387904) :
  Calls Tryz.prog 159 #[.slice (some ⟨blk, off, none⟩) l.length cap] w fun e w' => e = .returned (.tuple #[]) ∧ ∃ n os, w' = Go.Sort.grow (Go.Sort.putRow (Value.int .i64) (Go.Sort.ahead w n) blk off (Qdb l).toArray) os :=
 AnyM.slices_Sort_int Tryz.sortIL blk off cap l w hH hblk hsz
theorem Qqg (p : Option Addr) (cap : Nat) (w : World) :
  Calls Tryz.prog 159 #[.slice p 0 cap] w fun e w' => e = .returned (.tuple #[]) ∧ w' = w :=
 AnyM.slices_Sort_int_none Tryz.sortIL p cap w
theorem Qlk (l : List Int) (u : Value) (c : Nat) (w : World) (hc : Blk w c 35 #[u]) (h : IntsR w u l) (hN : l.length ≤ maxLen) (hNb : l.length * 8 ≤ 140737488355328) :
  Calls Tryz.prog 151 #[.func (.func 160) #[] #[pv c]] w fun e w' => ∃ v, e = .returned v ∧ w'.ownsRow w.heap.size 3 1 v l.length (Qaj (Qdb l)) ∧ Below w.heap.size w w' := by
 have HA := Qa (Qov l u c w hc h hN hNb)
 clear hc h
 go_enter Tryz.func151, Tryz.ntmps151
 go_wp2_with fail
 refine HA.out.mono ?_
 rintro e W ⟨v, rfl, hrow, hb⟩
 rcases hrow.2 with ⟨rfl, hz⟩ | ⟨gb, cap, cur, rfl, hbase, hgb, r1, r2, r3, r4⟩
 ·obtain rfl : l = [] := List.eq_nil_of_length_eq_zero hz
  have HW := Qa hrow
  have HB := Qa hb
  clear hrow hb
  go_wp2_with fail
  refine (Qqg none 0 W).mono ?_
  rintro e w' ⟨rfl, rfl⟩
  go_wp2_with fail
  go_ret
  exact ⟨_, rfl, by simpa [Qdb, Qaj] using HW.out, HB.out⟩
 ·have hH : Go.Sort.Holds (Value.int .i64) W gb 0 l.toArray := holds_of_block_i hgb (by rw [Nat.mul_one] at r4; exact r4)
  have hgl : gb < W.heap.size := (Array.getElem?_eq_some_iff.1 hgb).1
  have hcs := Qpk gb 0 cap l W hH hgl (by omega)
  have HC := Qa hcs
  have HG := Qa hgb
  have HB := Qa hb
  clear hcs hgb hrow hb r4 hH
  go_wp2_with fail
  refine HC.out.mono ?_
  rintro e w' ⟨rfl, nn, os, rfl⟩
  go_wp2_with fail
  go_ret
  exact ⟨_, rfl, ownsRow_sorted_i (by simp [Qdb]) hbase HG.out r1 r2 r3, HB.out.grown (grownBy_sorted_i _) HB.out.size (fun j hj => by cases hj; exact hbase)⟩
def Qa1 (l : List Int) (cell : Int) (ws : List Int) : Bool := decide (l.length = ws.length) && decide (l.getD 0 0 = cell) && decide (Qdb l = ws)
theorem Qll (l : List Int) : (Qdb l).length = l.length := by simp [Qdb]
theorem Qnp (u v : Value) (l ws : List Int) (cell : Int) (w : World) (h1 : IntsR w u l) (h2 : IntsR w v ws) (h0 : 0 < ws.length) (hw : ws.length ≤ 65536) (hl : l.length ≤ 9223372036854775807) :
  Calls Tryz.prog 138 #[u, .int .i64 cell, v] w fun r w' => r = .returned (.bool (Qa1 l cell ws)) ∧ Below w.heap.size w w' := by
 obtain ⟨p1, c1, hu, hp1⟩ := Qb6 h1
 obtain ⟨p2, c2, hv, hp2⟩ := Qb6 h2
 generalize hr : Qa1 l cell ws = r
 have HR := Qa hr
 have H1 := Qa h1
 have H2 := Qa h2
 have HP1 := Qa hp1
 clear hp1 hp2 h1 h2 hr
 subst hu
 subst hv
 go_enter Tryz.func138, Tryz.ntmps138
 by_cases e1 : l.length = ws.length
 ·obtain ⟨s, o, rfl, hs, hc⟩ := HP1.out (by omega)
  obtain ⟨x, hx⟩ : ∃ x, l[0]? = some x := ⟨_, List.getElem?_eq_getElem (by omega)⟩
  have x0 : w.cell? ⟨s, o, none⟩ = some (.int .i64 x) := hc 0 x hx
  have hgx : l.getD 0 0 = x := by rw [List.getD_eq_getElem?_getD, hx]; rfl
  have L1 : (0 : Int) < ((l.length : Nat) : Int) := by omega
  have HGX := Qa hgx
  clear hc hx hgx
  have q1 : ((((l.length : Nat) : Int)) == ((ws.length : Nat) : Int)) = true := by rw [e1]; simp
  have hl6 : l.length ≤ 65536 := by omega
  have HE1 := Qa e1
  clear e1
  by_cases e2 : x = cell
  ·subst e2
   have q2 : ((x : Int) == x) = true := by simp
   have HRE : Hid (r = decide (Qdb l = ws)) := by rw [Hid, ← HR.out, Qa1, HGX.out]; simp [HE1.out]
   obtain ⟨W1, hW1⟩ : ∃ W1, w.alloc (.cells #[.slice (some ⟨s, o, none⟩) l.length c1] 35) = W1 := ⟨_, rfl⟩
   have HB1 : Hid (Below w.heap.size w W1) := by rw [Hid, ← hW1]; exact (Below.refl _ _).alloc (Nat.le_refl _) _
   have hk1 : Blk W1 w.heap.size 35 #[.slice (some ⟨s, o, none⟩) l.length c1] := by rw [← hW1]; exact Blk.new w _ _
   have HS := Qa (Qlk l _ w.heap.size W1 hk1 (H1.out.below HB1.out) (Nat.le_trans hl6 (by decide)) (by omega))
   have HV := Qa (Qno (.slice (some ⟨s, o, none⟩) l.length c1) w ⟨_, _, _, rfl⟩)
   rw [hW1] at HV
   clear hk1 hW1
   go_wp2_with (first
    | (go_at_call 152; refine HV.out.mono ?_; rintro e w1 ⟨rfl, rfl⟩)
    | (go_at_call 151; refine HS.out.mono ?_; rintro e W2 ⟨vs, rfl, hrow, hB2⟩; have HB2 : Hid (Below w.heap.size w W2) := Qaa HB1.out HB1.out.size hB2; have HE := Qa (Qnu vs _ (Qdb l) ws W2 (Qgy (by rw [Qll]; exact hrow)) (H2.out.below HB2.out) (by rw [Qll]; omega)))
    | (go_at_call 150; refine HE.out.mono ?_; rintro e W3 ⟨rfl, hB3⟩))
   go_ret
   exact ⟨by rw [HRE.out]; rfl, Qaa HB2.out HB2.out.size hB3⟩
  ·have q2 : ((x : Int) == cell) = false := by rw [beq_eq_false_iff_ne]; exact e2
   obtain rfl : r = false := by rw [← HR.out, Qa1, HGX.out, decide_eq_false e2]; simp
   go_wp2_with fail
   go_ret
   exact ⟨rfl, Below.refl _ _⟩
 ·have q1 : ((((l.length : Nat) : Int)) == ((ws.length : Nat) : Int)) = false := by rw [beq_eq_false_iff_ne]; omega
  obtain rfl : r = false := by rw [← HR.out, Qa1, decide_eq_false e1]; simp
  go_wp2_with fail
  go_ret
  exact ⟨rfl, Below.refl _ _⟩
end Go.Proofs.YtlpffpfkapbepaaGreatDoor
