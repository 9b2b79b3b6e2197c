/- The statements' alone: a task that goes on by itself until it is done. -/
import Derived.Test.YtecolbdnaipgdaaSnapUp
namespace Go.Proofs.Ytecolbdnaipgdaa
open Go.RowKit

theorem hid_of' {p : Prop} (h : p) : Hid p := h
set_option maxRecDepth 100000 in
set_option maxHeartbeats 4000000 in
theorem alone_calls (T N m : Nat) (hm : m ≤ N) (hN : N ≤ 100) (P : Nat → World → Prop) (w : World) (h0 : P 0 w)
    (hrun : ∀ k w, k < m → P k w → ∃ todo st, Blk w T 73 (taskA todo st none))
    (hstep : ∀ k w, k < m → P k w → Calls Try.prog 15 #[pv T] w fun e w' => ∃ b, e = .returned (.bool b) ∧ P (k + 1) w')
    (hend : ∀ w, P m w → ∃ todo st O n ok x y z, Blk w T 73 (taskA todo st (some ⟨O, 0, none⟩)) ∧ Blk w O 83 (outA n ok (.slice x y z))) :
    Calls Try.prog 7 #[pv T, .int .i64 ((N : Nat) : Int)] w fun e w' => ∃ w1, P m w1 ∧ Below w1.heap.size w1 w' ∧ ∃ todo st O n ok x y z, Blk w1 T 73 (taskA todo st (some ⟨O, 0, none⟩)) ∧ Blk w1 O 83 (outA n ok (.slice x y z)) ∧ e = .returned (.tuple #[.int .u64 n, .bool ok, .int .i64 ((m : Nat) : Int)]) := by
  have H0 := hid_of' h0
  have HR := hid_of' hrun
  have HS := hid_of' hstep
  have HE := hid_of' hend
  clear h0 hrun hstep hend
  go_enter Try.func7, Try.ntmps7
  go_wp2_with fail
  go_loopw [7] (fun i wr => ∃ k : Nat, k ≤ m ∧ i = .int .i64 ((k : Nat) : Int) ∧ Hid (P k wr)) (fun i _ => m - (intOf i).toNat)
  case atStart => exact ⟨0, by omega, rfl, H0⟩
  case round =>
    clear H0
    obtain ⟨k, hk, rfl, hP⟩ := hrel
    by_cases hlt : k < m
    · obtain ⟨todo, st, hT⟩ := HR.out k wr hlt hP.out
      have hkN : ((k : Nat) : Int) < ((N : Nat) : Int) := by omega
      go_wp2_with fail
      refine (TDone_calls T todo st none _ hT (.inl rfl)).mono ?_
      rintro e w1 ⟨rfl, h⟩
      subst h
      go_wp2_with fail
      refine (HS.out k _ hlt hP.out).mono ?_
      rintro e w2 ⟨b, rfl, hP2⟩
      have HP2 := hid_of' hP2
      clear hP2
      go_wp2_with fail
      exact ⟨⟨k + 1, by omega, by go_num, HP2⟩, by simp [intOf]; omega⟩
    · obtain rfl : k = m := by omega
      obtain ⟨todo, st, O, n, ok, x, y, z, hT, hO⟩ := HE.out wr hP.out
      have fin : ∀ w' : World, Below wr.heap.size wr w' → ∃ w1, P k w1 ∧ Below w1.heap.size w1 w' ∧ ∃ todo st O n' ok' x y z, Blk w1 T 73 (taskA todo st (some ⟨O, 0, none⟩)) ∧ Blk w1 O 83 (outA n' ok' (.slice x y z)) ∧ Ending.returned (.tuple #[.int .u64 n, .bool ok, .int .i64 ((k : Nat) : Int)]) = .returned (.tuple #[.int .u64 n', .bool ok', .int .i64 ((k : Nat) : Int)]) :=
        fun w' hB => ⟨wr, hP.out, hB, todo, st, O, n, ok, x, y, z, hT, hO, rfl⟩
      have FIN := hid_of' fin
      clear fin hlt
      by_cases hkN : k < N
      · go_wp2_with fail
        refine (TDone_calls T todo st (some ⟨O, 0, none⟩) _ hT (.inr ⟨O, _, rfl, hO, rfl⟩)).mono ?_
        rintro e w1 ⟨rfl, h⟩
        subst h
        go_wp2_with fail
        refine (TResult_calls T todo st O n ok x y z _ hT hO).mono ?_
        rintro e w2 ⟨rfl, hB⟩
        go_wp2_with fail
        go_ret3
        exact FIN.out w2 hB
      · go_wp2_with fail
        refine (TResult_calls T todo st O n ok x y z _ hT hO).mono ?_
        rintro e w2 ⟨rfl, hB⟩
        go_wp2_with fail
        go_ret3
        exact FIN.out w2 hB
end Go.Proofs.Ytecolbdnaipgdaa
