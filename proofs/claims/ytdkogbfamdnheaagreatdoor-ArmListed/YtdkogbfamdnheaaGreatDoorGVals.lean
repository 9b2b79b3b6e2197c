import Derived.Test.YtdkogbfamdnheaaGreatDoorJ17
import Derived.Shelf.SlIterI.Sorted
import Derived.Sort.CutIn
namespace Go.Proofs.YtdkogbfamdnheaaGreatDoor
open Go.RowKit Go.Shelf Sx
set_option maxRecDepth 100000
set_option maxHeartbeats 16000000
set_option linter.unusedSimpArgs false
set_option linter.unusedVariables false
set_option linter.unusedSimpArgs false in
theorem Qyd (l : List Int) (u : Value) (c lp n : Nat) (hn : 1 ≤ n) (w : World) (hc : Blk w c 36 #[u]) (h : IntsR w u l) (hl : l.length ≤ 9223372036854775807) (J : List Int → World → Prop) (hB : ∀ pre W, J pre W → Below w.heap.size w W)
  (hY : ∀ pre x W1, J pre W1 → pre.length < l.length → YieldAt Fence.wide (n - 1) Tryz.prog lp #[.int .i64 x] W1 fun e W' => e = .returned (.bool true) ∧ J (pre ++ [x]) W' ∧ KeepsWalks W1 W') (W : World) (h0 : J [] W) :
  CallsIn Fence.wide n Tryz.prog 176 #[.func (.yield lp) #[] #[], pv c] W fun e W' => (∃ v, e = .returned v) ∧ J l W' := by
 obtain ⟨p, cap, rfl, hp⟩ := Qcw h
 have c0 := (hc.of_below (hB _ _ h0)).cell (j := 0) rfl
 have HP := Qa hp
 have HBB := Qa hB
 have HY := Qa hY
 have HJ0 := Qa h0
 clear hp hB hY h0 hc h
 refine callsIn_of_wp Tryz.func176 rfl trivial ?_ rfl
 simp only [Tryz.ntmps176, List.size_toArray, List.length_cons, List.length_nil, Nat.reduceAdd, Nat.reduceSub, Array.replicate_succ, Array.replicate_zero, List.push_toArray, List.append_toArray, List.nil_append, List.cons_append]
 gi_wp2_with fail
 clear c0
 gi_loopg [7] l.length (fun f i wr => ∃ k : Nat, i = .int .i64 ((k : Nat) : Int) ∧ k ≤ l.length ∧ Hid (k + f = l.length) ∧ Hid (J (l.take k) wr))
 case atStart => exact ⟨0, rfl, Nat.zero_le _, Nat.zero_add _, HJ0.out⟩
 case round =>
  clear HJ0
  obtain ⟨k, rfl, hk, HKF, HJ⟩ := hrel
  by_cases hkl : k < l.length
  ·obtain ⟨s, o, rfl, hs, hc⟩ := HP.out oW
   obtain ⟨x, hx⟩ : ∃ x, l[k]? = some x := ⟨_, List.getElem?_eq_getElem hkl⟩
   have x0 := ((HBB.out _ _ HJ.out).cell (p := ⟨s, o + k, none⟩) hs).trans (hc k x hx)
   have K0 : (0 : Int) ≤ (k : Int) := by omega
   have K1 : (k : Int) < (l.length : Int) := by omega
   have HN : Hid (l.take (k + 1) = l.take k ++ [x]) := by rw [Hid, List.take_add_one, hx]; rfl
   obtain ⟨fn, tmps, assign, body, hy, hR⟩ := HY.out (l.take k) x wr HJ.out (by rw [List.length_take]; omega)
   clear hc hx
   gi_wp2_with fail
   refine hR.mono ?_
   rintro e W3 ⟨rfl, hJ3, _⟩
   gi_wp2_with fail
   gi_roundg (l.length - (k + 1))
   case measure => have := HKF.out; omega
   case rel => exact ⟨k + 1, by go_num, oW, by have := HKF.out; rw [Hid]; omega, by rw [Hid, HN.out]; exact hJ3⟩
  ·obtain rfl : k = l.length := by omega
   have HE : Hid (J l wr) := by have := HJ.out; rwa [List.take_length] at this
   gi_wp2_with fail
   go_end0
   exact ⟨⟨_, rfl⟩, HE.out⟩
end Go.Proofs.YtdkogbfamdnheaaGreatDoor
