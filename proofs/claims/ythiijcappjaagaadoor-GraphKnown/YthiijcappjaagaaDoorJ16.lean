/- slices.Sorted over slices.Values' iterator. -/
import Derived.Test.YthiijcappjaagaaDoorJ15
import Derived.Shelf.SortM.Plain
import Derived.Shelf.SortM.SortNone
import Derived.Ground.SlgmProg
namespace Go.Proofs.YthiijcappjaagaaDoor
open Go.RowKit Go.Shelf Sx
def Tryd.sortIL_ren : Go.Shelf.Ren := ⟨fun | 5 => 75 | 8 => 82 | 7 => 81 | 19 => 93 | 20 => 94 | 10 => 84 | 11 => 85 | 12 => 86 | 13 => 87 | 14 => 88 | 15 => 89 | 16 => 90 | 17 => 91 | 18 => 92 | 30 => 95 | 31 => 96 | 32 => 97 | 33 => 98 | 34 => 99 | 35 => 83 | 40 => 100 | n => n, fun | 23 => 42 | 25 => 3 | 3 => 3 | 32 => 98 | 22 => 42 | 0 => 0 | 44 => 122 | 46 => 47 | 4 => 4 | 36 => 115 | 35 => 114 | 41 => 119 | 5 => 5 | 9 => 9 | 53 => 123 | 57 => 127 | 63 => 129 | 64 => 50 | n => n, fun | n => n⟩
theorem Tryd.sortIL : Go.Proofs.SlLaysM.n5 Tryd.prog Tryd.sortIL_ren := {
  mixed := by kernel_rfl
  f5 := ⟨Tryd.f75.name, by decide, Tryd.func75.trans (congrArg some (by kernel_rfl))⟩
  f7 := ⟨Tryd.f81.name, by decide, Tryd.func81.trans (congrArg some (by kernel_rfl))⟩
  f8 := Tryd.func82.trans (congrArg some (by kernel_rfl))
  f10 := ⟨Tryd.f84.name, by decide, Tryd.func84.trans (congrArg some (by kernel_rfl))⟩
  f11 := ⟨Tryd.f85.name, by decide, Tryd.func85.trans (congrArg some (by kernel_rfl))⟩
  f12 := ⟨Tryd.f86.name, by decide, Tryd.func86.trans (congrArg some (by kernel_rfl))⟩
  f13 := ⟨Tryd.f87.name, by decide, Tryd.func87.trans (congrArg some (by kernel_rfl))⟩
  f14 := ⟨Tryd.f88.name, by decide, Tryd.func88.trans (congrArg some (by kernel_rfl))⟩
  f15 := ⟨Tryd.f89.name, by decide, Tryd.func89.trans (congrArg some (by kernel_rfl))⟩
  f16 := ⟨Tryd.f90.name, by decide, Tryd.func90.trans (congrArg some (by kernel_rfl))⟩
  f17 := ⟨Tryd.f91.name, by decide, Tryd.func91.trans (congrArg some (by kernel_rfl))⟩
  f18 := ⟨Tryd.f92.name, by decide, Tryd.func92.trans (congrArg some (by kernel_rfl))⟩
  f19 := Tryd.func93.trans (congrArg some (by kernel_rfl))
  f20 := Tryd.func94.trans (congrArg some (by kernel_rfl))
  f30 := ⟨Tryd.f95.name, by decide, Tryd.func95.trans (congrArg some (by kernel_rfl))⟩
  f31 := Tryd.func96.trans (congrArg some (by kernel_rfl))
  f32 := Tryd.func97.trans (congrArg some (by kernel_rfl))
  f33 := ⟨Tryd.f98.name, by decide, Tryd.func98.trans (congrArg some (by kernel_rfl))⟩
  f34 := ⟨Tryd.f99.name, by decide, Tryd.func99.trans (congrArg some (by kernel_rfl))⟩
  f35 := ⟨Tryd.f83.name, by decide, Tryd.func83.trans (congrArg some (by kernel_rfl))⟩
  f40 := ⟨Tryd.f100.name, by decide, Tryd.func100.trans (congrArg some (by kernel_rfl))⟩
  t0 := Tryd.underlying0
  a0 := Tryd.isAgg0
  z0 := Tryd.sizeOf0
  v0 := Tryd.zeroValue0
  t3 := Tryd.underlying3
  a3 := Tryd.isAgg3
  z3 := Tryd.sizeOf3
  v3 := Tryd.zeroValue3
  t4 := Tryd.underlying4
  a4 := Tryd.isAgg4
  z4 := Tryd.sizeOf4
  v4 := Tryd.zeroValue4
  t5 := Tryd.underlying5
  a5 := Tryd.isAgg5
  z5 := Tryd.sizeOf5
  v5 := Tryd.zeroValue5
  t9 := Tryd.underlying9
  a9 := Tryd.isAgg9
  z9 := Tryd.sizeOf9
  v9 := Tryd.zeroValue9
  t22 := Tryd.underlying42
  a22 := Tryd.isAgg42
  z22 := Tryd.sizeOf42
  v22 := Tryd.zeroValue42
  t23 := Tryd.underlying42
  a23 := Tryd.isAgg42
  z23 := Tryd.sizeOf42
  v23 := Tryd.zeroValue42
  t25 := Tryd.underlying3
  a25 := Tryd.isAgg3
  z25 := Tryd.sizeOf3
  v25 := Tryd.zeroValue3
  t32 := Tryd.underlying98
  a32 := Tryd.isAgg98
  z32 := Tryd.sizeOf98
  v32 := Tryd.zeroValue98
  t35 := Tryd.underlying114
  a35 := Tryd.isAgg114
  z35 := Tryd.sizeOf114
  v35 := Tryd.zeroValue114
  t36 := Tryd.underlying115
  a36 := Tryd.isAgg115
  z36 := Tryd.sizeOf115
  v36 := Tryd.zeroValue115
  t41 := Tryd.underlying119
  a41 := Tryd.isAgg119
  z41 := Tryd.sizeOf119
  v41 := Tryd.zeroValue119
  t44 := Tryd.underlying122
  a44 := Tryd.isAgg122
  z44 := Tryd.sizeOf122
  v44 := Tryd.zeroValue122
  t46 := Tryd.underlying47
  a46 := Tryd.isAgg47
  z46 := Tryd.sizeOf47
  v46 := Tryd.zeroValue47
  t53 := Tryd.underlying123
  a53 := Tryd.isAgg123
  z53 := Tryd.sizeOf123
  v53 := Tryd.zeroValue123
  t57 := Tryd.underlying127
  a57 := Tryd.isAgg127
  z57 := Tryd.sizeOf127
  v57 := Tryd.zeroValue127
  t63 := Tryd.underlying129
  a63 := Tryd.isAgg129
  z63 := Tryd.sizeOf129
  v63 := Tryd.zeroValue129
  t64 := Tryd.underlying50
  a64 := Tryd.isAgg50
  z64 := Tryd.sizeOf50
  v64 := Tryd.zeroValue50 }
def srtI (l : List Int) : List Int := l.mergeSort (fun x y => decide (x ≤ y))
theorem slSortI_calls (blk off cap : Nat) (l : List Int) (w : World) (hH : Go.Sort.Holds (Value.int .i64) w blk off l.toArray) (hblk : blk < w.heap.size) (hsz : l.length < 4611686018427387904) :
    Calls Tryd.prog 75 #[.slice (some ⟨blk, off, none⟩) l.length cap] w fun e w' => e = .returned (.tuple #[]) ∧ ∃ n os, w' = Go.Sort.grow (Go.Sort.putRow (Value.int .i64) (Go.Sort.ahead w n) blk off (srtI l).toArray) os :=
  AnyM.slices_Sort_int Tryd.sortIL blk off cap l w hH hblk hsz
theorem slSortI_none (p : Option Addr) (cap : Nat) (w : World) :
    Calls Tryd.prog 75 #[.slice p 0 cap] w fun e w' => e = .returned (.tuple #[]) ∧ w' = w :=
  AnyM.slices_Sort_int_none Tryd.sortIL p cap w
set_option maxRecDepth 100000 in
set_option maxHeartbeats 4000000 in
theorem sortedVals_calls (l : List Int) (u : Value) (c : Nat) (w : World) (hc : Blk w c 42 #[u]) (h : IntsR w u l) (hN : l.length ≤ maxLen) (hNb : l.length * 8 ≤ 140737488355328) :
    Calls Tryd.prog 69 #[.func (.func 76) #[] #[pv c]] w fun e w' => ∃ v, e = .returned v ∧ w'.ownsRow w.heap.size 3 1 v l.length (encJ (srtI l)) ∧ Below w.heap.size w w' := by
  have HA := hid_of (collVals_calls l u c w hc h hN hNb)
  clear hc h
  go_enter Tryd.func69, Tryd.ntmps69
  go_wp2_with fail
  refine HA.out.mono ?_
  rintro e W ⟨v, rfl, hrow, hb⟩
  rcases hrow.2 with ⟨rfl, hz⟩ | ⟨gb, cap, cur, rfl, hbase, hgb, r1, r2, r3, r4⟩
  · obtain rfl : l = [] := List.eq_nil_of_length_eq_zero hz
    have HW := hid_of hrow
    have HB := hid_of hb
    clear hrow hb
    go_wp2_with fail
    refine (slSortI_none none 0 W).mono ?_
    rintro e w' ⟨rfl, rfl⟩
    go_wp2_with fail
    go_ret
    exact ⟨_, rfl, by simpa [srtI, encJ] using HW.out, HB.out⟩
  · have hH : Go.Sort.Holds (Value.int .i64) W gb 0 l.toArray := holds_of_block_i hgb (by rw [Nat.mul_one] at r4; exact r4)
    have hgl : gb < W.heap.size := (Array.getElem?_eq_some_iff.1 hgb).1
    have hcs := slSortI_calls gb 0 cap l W hH hgl (by omega)
    have HC := hid_of hcs
    have HG := hid_of hgb
    have HB := hid_of hb
    clear hcs hgb hrow hb r4 hH
    go_wp2_with fail
    refine HC.out.mono ?_
    rintro e w' ⟨rfl, nn, os, rfl⟩
    go_wp2_with fail
    go_ret
    exact ⟨_, rfl, ownsRow_sorted_i (by simp [srtI]) hbase HG.out r1 r2 r3, HB.out.grown (grownBy_sorted_i _) HB.out.size (fun j hj => by cases hj; exact hbase)⟩
end Go.Proofs.YthiijcappjaagaaDoor
namespace Go.Proofs.YthiijcappjaagaaDoor
open Go.RowKit Go.Shelf Sx
def isOrdB (l : List Int) (cell : Int) (ws : List Int) : Bool := decide (l.length = ws.length) && decide (l.getD 0 0 = cell) && decide (srtI l = ws)
theorem srtI_len (l : List Int) : (srtI l).length = l.length := by simp [srtI]
set_option linter.unusedSimpArgs false in
set_option maxRecDepth 100000 in
set_option maxHeartbeats 4000000 in
theorem gIsOrder_calls (u v : Value) (l ws : List Int) (cell : Int) (w : World) (h1 : IntsR w u l) (h2 : IntsR w v ws) (h0 : 0 < ws.length) (hw : ws.length ≤ 65536) (hl : l.length ≤ 9223372036854775807) :
    Calls Tryd.prog 61 #[u, .int .i64 cell, v] w fun r w' => r = .returned (.bool (isOrdB l cell ws)) ∧ Below w.heap.size w w' := by
  obtain ⟨p1, c1, hu, hp1⟩ := intsR_form h1
  obtain ⟨p2, c2, hv, hp2⟩ := intsR_form h2
  generalize hr : isOrdB l cell ws = r
  have HR := hid_of hr
  have H1 := hid_of h1
  have H2 := hid_of h2
  have HP1 := hid_of hp1
  clear hp1 hp2 h1 h2 hr
  subst hu
  subst hv
  go_enter Tryd.func61, Tryd.ntmps61
  by_cases e1 : l.length = ws.length
  · obtain ⟨s, o, rfl, hs, hc⟩ := HP1.out (by omega)
    obtain ⟨x, hx⟩ : ∃ x, l[0]? = some x := ⟨_, List.getElem?_eq_getElem (by omega)⟩
    have x0 : w.cell? ⟨s, o, none⟩ = some (.int .i64 x) := hc 0 x hx
    have hgx : l.getD 0 0 = x := by rw [List.getD_eq_getElem?_getD, hx]; rfl
    have L1 : (0 : Int) < ((l.length : Nat) : Int) := by omega
    have HGX := hid_of hgx
    clear hc hx hgx
    have q1 : ((((l.length : Nat) : Int)) == ((ws.length : Nat) : Int)) = true := by rw [e1]; simp
    have hl6 : l.length ≤ 65536 := by omega
    have HE1 := hid_of e1
    clear e1
    by_cases e2 : x = cell
    · subst e2
      have q2 : ((x : Int) == x) = true := by simp
      have HRE : Hid (r = decide (srtI l = ws)) := by rw [Hid, ← HR.out, isOrdB, HGX.out]; simp [HE1.out]
      obtain ⟨W1, hW1⟩ : ∃ W1, w.alloc (.cells #[.slice (some ⟨s, o, none⟩) l.length c1] 42) = W1 := ⟨_, rfl⟩
      have HB1 : Hid (Below w.heap.size w W1) := by rw [Hid, ← hW1]; exact (Below.refl _ _).alloc (Nat.le_refl _) _
      have hk1 : Blk W1 w.heap.size 42 #[.slice (some ⟨s, o, none⟩) l.length c1] := by rw [← hW1]; exact Blk.new w _ _
      have HS := hid_of (sortedVals_calls l _ w.heap.size W1 hk1 (H1.out.below HB1.out) (Nat.le_trans hl6 (by decide)) (by omega))
      have HV := hid_of (slValuesI_calls (.slice (some ⟨s, o, none⟩) l.length c1) w ⟨_, _, _, rfl⟩)
      rw [hW1] at HV
      clear hk1 hW1
      go_wp2_with (first
        | (go_at_call 70; refine HV.out.mono ?_; rintro e w1 ⟨rfl, rfl⟩)
        | (go_at_call 69; refine HS.out.mono ?_; rintro e W2 ⟨vs, rfl, hrow, hB2⟩; have HB2 : Hid (Below w.heap.size w W2) := below_step HB1.out HB1.out.size hB2; have HE := hid_of (slEqualI_calls vs _ (srtI l) ws W2 (owns_intsR (by rw [srtI_len]; exact hrow)) (H2.out.below HB2.out) (by rw [srtI_len]; omega)))
        | (go_at_call 68; refine HE.out.mono ?_; rintro e W3 ⟨rfl, hB3⟩))
      go_ret
      exact ⟨by rw [HRE.out]; rfl, below_step HB2.out HB2.out.size hB3⟩
    · have q2 : ((x : Int) == cell) = false := by rw [beq_eq_false_iff_ne]; exact e2
      obtain rfl : r = false := by rw [← HR.out, isOrdB, HGX.out, decide_eq_false e2]; simp
      go_wp2_with fail
      go_ret
      exact ⟨rfl, Below.refl _ _⟩
  · have q1 : ((((l.length : Nat) : Int)) == ((ws.length : Nat) : Int)) = false := by rw [beq_eq_false_iff_ne]; omega
    obtain rfl : r = false := by rw [← HR.out, isOrdB, decide_eq_false e1]; simp
    go_wp2_with fail
    go_ret
    exact ⟨rfl, Below.refl _ _⟩
end Go.Proofs.YthiijcappjaagaaDoor
