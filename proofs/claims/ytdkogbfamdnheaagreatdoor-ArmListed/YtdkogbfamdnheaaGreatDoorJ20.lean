import Derived.Test.YtdkogbfamdnheaaGreatDoorJ19
import Derived.Shelf.SortM.Plain
import Derived.Shelf.SortM.SortNone
namespace Go.Proofs.YtdkogbfamdnheaaGreatDoor
open Go.RowKit Go.Shelf Sx
set_option maxRecDepth 100000
set_option maxHeartbeats 16000000
set_option linter.unusedSimpArgs false
set_option linter.unusedVariables false
def Tryz.sortIL_ren : Go.Shelf.Ren := ⟨fun | 5 => 175 | 8 => 182 | 7 => 181 | 19 => 193 | 20 => 194 | 10 => 184 | 11 => 185 | 12 => 186 | 13 => 187 | 14 => 188 | 15 => 189 | 16 => 190 | 17 => 191 | 18 => 192 | 30 => 195 | 31 => 196 | 32 => 197 | 33 => 198 | 34 => 199 | 35 => 183 | 40 => 200 | n => n, fun | 23 => 36 | 25 => 3 | 3 => 3 | 32 => 157 | 22 => 36 | 0 => 0 | 44 => 199 | 46 => 32 | 4 => 4 | 36 => 192 | 35 => 191 | 41 => 196 | 5 => 5 | 9 => 9 | 53 => 200 | 57 => 204 | 63 => 206 | 64 => 47 | n => n, fun | n => n⟩
theorem Tryz.sortIL : Go.Proofs.SlLaysM.n5 Tryz.prog Tryz.sortIL_ren := {
 mixed := by kernel_rfl
 f5 := ⟨Tryz.f175.name, by decide, Tryz.func175.trans (congrArg some kW)⟩
 f7 := ⟨Tryz.f181.name, by decide, Tryz.func181.trans (congrArg some kW)⟩
 f8 := Tryz.func182.trans (congrArg some kW)
 f10 := ⟨Tryz.f184.name, by decide, Tryz.func184.trans (congrArg some kW)⟩
 f11 := ⟨Tryz.f185.name, by decide, Tryz.func185.trans (congrArg some kW)⟩
 f12 := ⟨Tryz.f186.name, by decide, Tryz.func186.trans (congrArg some kW)⟩
 f13 := ⟨Tryz.f187.name, by decide, Tryz.func187.trans (congrArg some kW)⟩
 f14 := ⟨Tryz.f188.name, by decide, Tryz.func188.trans (congrArg some kW)⟩
 f15 := ⟨Tryz.f189.name, by decide, Tryz.func189.trans (congrArg some kW)⟩
 f16 := ⟨Tryz.f190.name, by decide, Tryz.func190.trans (congrArg some kW)⟩
 f17 := ⟨Tryz.f191.name, by decide, Tryz.func191.trans (congrArg some kW)⟩
 f18 := ⟨Tryz.f192.name, by decide, Tryz.func192.trans (congrArg some kW)⟩
 f19 := Tryz.func193.trans (congrArg some kW)
 f20 := Tryz.func194.trans (congrArg some kW)
 f30 := ⟨Tryz.f195.name, by decide, Tryz.func195.trans (congrArg some kW)⟩
 f31 := Tryz.func196.trans (congrArg some kW)
 f32 := Tryz.func197.trans (congrArg some kW)
 f33 := ⟨Tryz.f198.name, by decide, Tryz.func198.trans (congrArg some kW)⟩
 f34 := ⟨Tryz.f199.name, by decide, Tryz.func199.trans (congrArg some kW)⟩
 f35 := ⟨Tryz.f183.name, by decide, Tryz.func183.trans (congrArg some kW)⟩
 f40 := ⟨Tryz.f200.name, by decide, Tryz.func200.trans (congrArg some kW)⟩
 t0 := Tryz.underlying0
 a0 := Tryz.isAgg0
 z0 := Tryz.sizeOf0
 v0 := Tryz.zeroValue0
 t3 := Tryz.underlying3
 a3 := Tryz.isAgg3
 z3 := Tryz.sizeOf3
 v3 := Tryz.zeroValue3
 t4 := Tryz.underlying4
 a4 := Tryz.isAgg4
 z4 := Tryz.sizeOf4
 v4 := Tryz.zeroValue4
 t5 := Tryz.underlying5
 a5 := Tryz.isAgg5
 z5 := Tryz.sizeOf5
 v5 := Tryz.zeroValue5
 t9 := Tryz.underlying9
 a9 := Tryz.isAgg9
 z9 := Tryz.sizeOf9
 v9 := Tryz.zeroValue9
 t22 := Tryz.underlying36
 a22 := Tryz.isAgg36
 z22 := Tryz.sizeOf36
 v22 := Tryz.zeroValue36
 t23 := Tryz.underlying36
 a23 := Tryz.isAgg36
 z23 := Tryz.sizeOf36
 v23 := Tryz.zeroValue36
 t25 := Tryz.underlying3
 a25 := Tryz.isAgg3
 z25 := Tryz.sizeOf3
 v25 := Tryz.zeroValue3
 t32 := Tryz.underlying157
 a32 := Tryz.isAgg157
 z32 := Tryz.sizeOf157
 v32 := Tryz.zeroValue157
 t35 := Tryz.underlying191
 a35 := Tryz.isAgg191
 z35 := Tryz.sizeOf191
 v35 := Tryz.zeroValue191
 t36 := Tryz.underlying192
 a36 := Tryz.isAgg192
 z36 := Tryz.sizeOf192
 v36 := Tryz.zeroValue192
 t41 := Tryz.underlying196
 a41 := Tryz.isAgg196
 z41 := Tryz.sizeOf196
 v41 := Tryz.zeroValue196
 t44 := Tryz.underlying199
 a44 := Tryz.isAgg199
 z44 := Tryz.sizeOf199
 v44 := Tryz.zeroValue199
 t46 := Tryz.underlying32
 a46 := Tryz.isAgg32
 z46 := Tryz.sizeOf32
 v46 := Tryz.zeroValue32
 t53 := Tryz.underlying200
 a53 := Tryz.isAgg200
 z53 := Tryz.sizeOf200
 v53 := Tryz.zeroValue200
 t57 := Tryz.underlying204
 a57 := Tryz.isAgg204
 z57 := Tryz.sizeOf204
 v57 := Tryz.zeroValue204
 t63 := Tryz.underlying206
 a63 := Tryz.isAgg206
 z63 := Tryz.sizeOf206
 v63 := Tryz.zeroValue206
 t64 := Tryz.underlying47
 a64 := Tryz.isAgg47
 z64 := Tryz.sizeOf47
 v64 := Tryz.zeroValue47 }
def Qc1 (l : List Int) : List Int := l.mergeSort (fun x y => decide (x ≤ y))
theorem Qoi (blk off cap : Nat) (l : List Int) (w : World) (hH : Go.Sort.Holds (Value.int .i64) w blk off l.toArray) (hblk : blk < w.heap.size) (hsz : l.length < 4611686018427387904) :
  Calls Tryz.prog 175 #[.slice (some ⟨blk, off, none⟩) l.length cap] w fun e w' => e = .returned (.tuple #[]) ∧ ∃ n os, w' = Go.Sort.grow (Go.Sort.putRow (Value.int .i64) (Go.Sort.ahead w n) blk off (Qc1 l).toArray) os :=
 AnyM.slices_Sort_int Tryz.sortIL blk off cap l w hH hblk hsz
theorem Qpm (p : Option Addr) (cap : Nat) (w : World) :
  Calls Tryz.prog 175 #[.slice p 0 cap] w fun e w' => e = .returned (.tuple #[]) ∧ w' = w :=
 AnyM.slices_Sort_int_none Tryz.sortIL p cap w
theorem Qk5 (l : List Int) (u : Value) (c : Nat) (w : World) (hc : Blk w c 36 #[u]) (h : IntsR w u l) (hN : l.length ≤ maxLen) (hNb : l.length * 8 ≤ 140737488355328) :
  Calls Tryz.prog 165 #[.func (.func 176) #[] #[pv c]] w fun e w' => ∃ v, e = .returned v ∧ w'.ownsRow w.heap.size 3 1 v l.length (Qaf (Qc1 l)) ∧ Below w.heap.size w w' := by
 have HA := Qa (Qnc l u c w hc h hN hNb)
 clear hc h
 go_enter Tryz.func165, Tryz.ntmps165
 go_wp2_with fail
 refine HA.out.mono ?_
 rintro e W ⟨v, rfl, hrow, hb⟩
 rcases hrow.2 with ⟨rfl, hz⟩ | ⟨gb, cap, cur, rfl, hbase, hgb, r1, r2, r3, r4⟩
 ·obtain rfl : l = [] := List.eq_nil_of_length_eq_zero hz
  have HW := Qa hrow
  have HB := Qa hb
  clear hrow hb
  go_wp2_with fail
  refine (Qpm none 0 W).mono ?_
  rintro e w' ⟨rfl, rfl⟩
  go_wp2_with fail
  go_ret
  exact ⟨_, rfl, by simpa [Qc1, Qaf] using HW.out, HB.out⟩
 ·have hH : Go.Sort.Holds (Value.int .i64) W gb 0 l.toArray := holds_of_block_i hgb (by rw [Nat.mul_one] at r4; exact r4)
  have hgl : gb < W.heap.size := (Array.getElem?_eq_some_iff.1 hgb).1
  have hcs := Qoi gb 0 cap l W hH hgl oW
  have HC := Qa hcs
  have HG := Qa hgb
  have HB := Qa hb
  clear hcs hgb hrow hb r4 hH
  go_wp2_with fail
  refine HC.out.mono ?_
  rintro e w' ⟨rfl, nn, os, rfl⟩
  go_wp2_with fail
  go_ret
  exact ⟨_, rfl, ownsRow_sorted_i (by simp [Qc1]) hbase HG.out r1 r2 r3, HB.out.grown (grownBy_sorted_i _) HB.out.size (fun j hj => by cases hj; exact hbase)⟩
def Qau (l : List Int) (cell : Int) (ws : List Int) : Bool := decide (l.length = ws.length) && decide (l.getD 0 0 = cell) && decide (Qc1 l = ws)
theorem Qii (l : List Int) : (Qc1 l).length = l.length := by simp [Qc1]
theorem Qmu (u v : Value) (l ws : List Int) (cell : Int) (w : World) (h1 : IntsR w u l) (h2 : IntsR w v ws) (h0 : 0 < ws.length) (hw : ws.length ≤ 65536) (hl : l.length ≤ 9223372036854775807) :
  Calls Tryz.prog 149 #[u, .int .i64 cell, v] w fun r w' => r = .returned (.bool (Qau l cell ws)) ∧ Below w.heap.size w w' := by
 obtain ⟨p1, c1, hu, hp1⟩ := Qcw h1
 obtain ⟨p2, c2, hv, hp2⟩ := Qcw h2
 generalize hr : Qau l cell ws = r
 have HR := Qa hr
 have H1 := Qa h1
 have H2 := Qa h2
 have HP1 := Qa hp1
 clear hp1 hp2 h1 h2 hr
 subst hu
 subst hv
 go_enter Tryz.func149, Tryz.ntmps149
 by_cases e1 : l.length = ws.length
 ·obtain ⟨s, o, rfl, hs, hc⟩ := HP1.out oW
  obtain ⟨x, hx⟩ : ∃ x, l[0]? = some x := ⟨_, List.getElem?_eq_getElem oW⟩
  have x0 : w.cell? ⟨s, o, none⟩ = some (.int .i64 x) := hc 0 x hx
  have hgx : l.getD 0 0 = x := by rw [List.getD_eq_getElem?_getD, hx]; rfl
  have L1 : (0 : Int) < (l.length : Int) := by omega
  have HGX := Qa hgx
  clear hc hx hgx
  have q1 : (((l.length : Int)) == (ws.length : Int)) = true := by rw [e1]; simp
  have hl6 : l.length ≤ 65536 := by omega
  have HE1 := Qa e1
  clear e1
  by_cases e2 : x = cell
  ·subst e2
   have q2 : ((x : Int) == x) = true := by simp
   have HRE : Hid (r = decide (Qc1 l = ws)) := by rw [Hid, ← HR.out, Qau, HGX.out]; simp [HE1.out]
   obtain ⟨W1, hW1⟩ : ∃ W1, w.alloc (.cells #[.slice (some ⟨s, o, none⟩) l.length c1] 36) = W1 := ⟨_, rfl⟩
   have HB1 : Hid (Below w.heap.size w W1) := by rw [Hid, ← hW1]; exact bW.alloc nW _
   have hk1 : Blk W1 w.heap.size 36 #[.slice (some ⟨s, o, none⟩) l.length c1] := by rw [← hW1]; exact Blk.new w _ _
   have HS := Qa (Qk5 l _ w.heap.size W1 hk1 (H1.out.below HB1.out) (Nat.le_trans hl6 dW) oW)
   have HV := Qa (Qmh (.slice (some ⟨s, o, none⟩) l.length c1) w ⟨_, _, _, rfl⟩)
   rw [hW1] at HV
   clear hk1 hW1
   go_wp2_with (first
    | (go_at_call 166; refine HV.out.mono ?_; rintro e w1 ⟨rfl, rfl⟩)
    | (go_at_call 165; refine HS.out.mono ?_; rintro e W2 ⟨vs, rfl, hrow, hB2⟩; have HB2 : Hid (Below w.heap.size w W2) := Qaa HB1.out HB1.out.size hB2; have HE := Qa (Qno vs _ (Qc1 l) ws W2 (Qgg (by rw [Qii]; exact hrow)) (H2.out.below HB2.out) (by rw [Qii]; omega)))
    | (go_at_call 164; refine HE.out.mono ?_; rintro e W3 ⟨rfl, hB3⟩))
   go_ret
   exact ⟨by rw [HRE.out]; rfl, Qaa HB2.out HB2.out.size hB3⟩
  ·have q2 : ((x : Int) == cell) = false := by rw [beq_eq_false_iff_ne]; exact e2
   obtain rfl : r = false := by rw [← HR.out, Qau, HGX.out, decide_eq_false e2]; simp
   go_wp2_with fail
   go_ret
   exact ⟨rfl, Below.refl _ _⟩
 ·have q1 : (((l.length : Int)) == (ws.length : Int)) = false := by rw [beq_eq_false_iff_ne]; omega
  obtain rfl : r = false := by rw [← HR.out, Qau, decide_eq_false e1]; simp
  go_wp2_with fail
  go_ret
  exact ⟨rfl, Below.refl _ _⟩
end Go.Proofs.YtdkogbfamdnheaaGreatDoor
