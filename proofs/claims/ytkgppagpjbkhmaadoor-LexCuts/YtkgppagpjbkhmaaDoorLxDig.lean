/- The contract of digitsAhead. -/
import Derived.Test.YtkgppagpjbkhmaaDoorLxRem
namespace Go.Proofs.YtkgppagpjbkhmaaDoor
open Go.RowKit Go.Shelf

def digK (s : ByteArray) (base : Nat) : Nat → Nat → Nat → Bool → Nat × Nat × Bool
  | 0, _, v, ok => (s.size, v, ok)
  | f + 1, pos, v, ok => if pos < s.size then (if base ≤ digitV (Utf8.decode s pos).1 then (pos, v, ok) else digK s base f (pos + (Utf8.decode s pos).2) ((v * base + digitV (Utf8.decode s pos).1) % 18446744073709551616) (ok && decide (v ≤ (18446744073709551615 - digitV (Utf8.decode s pos).1) / base))) else (s.size, v, ok)
def digA (s : ByteArray) (base : Nat) : Nat × Nat × Bool := digK s base s.size 0 0 true
theorem digK_end {s : ByteArray} {base f pos v : Nat} {ok : Bool} (h : ¬ pos < s.size) : digK s base f pos v ok = (s.size, v, ok) := by
  cases f with
  | zero => rfl
  | succ f => simp [digK, h]
theorem wrap_dig (v base d : Nat) : IntKind.u64.wrap (IntKind.u64.wrap ((v : Int) * (base : Int)) + (d : Int)) = (((v * base + d) % 18446744073709551616 : Nat) : Int) := by
  have e : (v : Int) * (base : Int) = ((v * base : Nat) : Int) := by push_cast; rfl
  rw [e]
  generalize v * base = t
  simp [IntKind.wrap, IntKind.signed, IntKind.bits]
theorem fits_dig (v d base : Nat) (h : d ≤ 18446744073709551615) : decide ((v : Int) ≤ (18446744073709551615 - (d : Int)) / (base : Int)) = decide (v ≤ (18446744073709551615 - d) / base) := by
  have e : (18446744073709551615 : Int) - (d : Int) = ((18446744073709551615 - d : Nat) : Int) := by omega
  rw [e, ← Int.natCast_ediv]
  rw [Bool.eq_iff_iff]
  simp only [decide_eq_true_eq]
  omega
set_option maxRecDepth 100000 in
set_option maxHeartbeats 1000000 in
theorem digitsAhead_calls (s : ByteArray) (base : Nat) (hbase : base = 10 ∨ base = 16) (w : World) (hs : s.size ≤ 9223372036854775807) :
    Calls Tryd.prog 49 #[.string s, .int .u64 ((base : Nat) : Int)] w fun e w' => e = .returned (.tuple #[.int .i64 ((digA s base).1 : Nat), .int .u64 ((digA s base).2.1 : Nat), .bool (digA s base).2.2]) ∧ Below w.heap.size w w' := by
  have hb0 : 1 ≤ base := by omega
  have hb1 : base ≤ 16 := by omega
  have hbz : (((base : Nat) : Int) == 0) = false := by rw [beq_eq_false_iff_ne]; omega
  clear hbase
  go_enter Tryd.func49, Tryd.ntmps49
  go_wp2_with fail
  go_loopw [5, 6] (fun n k w' => ∃ (pos b v : Nat) (ok : Bool), w' = w.iter s pos ∧ n = .int .u64 ((v : Nat) : Int) ∧ k = .bool ok ∧ Hid (digK s base b pos v ok = digA s base) ∧ s.size ≤ pos + b ∧ v < 18446744073709551616 ∧ pos ≤ s.size) (fun _ _ w' => s.size - w'.iterPos w.heap.size)
  case atStart => exact ⟨0, s.size, 0, true, rfl, rfl, rfl, rfl, by omega, by omega, by omega⟩
  case round =>
    obtain ⟨pos, b, v, ok, rfl, rfl, rfl, HK, hb, hv, hps⟩ := hrel
    by_cases hp : pos < s.size
    · have hnx : ∀ ty, (Instr.next (.pointer (some ⟨w.heap.size, 0, none⟩)) true ty).run Tryd.prog (w.iter s pos) = _ := fun ty => run_next_any w s pos ty hp
      have hwd := dec_pos s pos
      have hwl := dec_le s pos hp
      obtain ⟨b', rfl⟩ : ∃ b', b = b' + 1 := ⟨b - 1, by omega⟩
      have HK2 : Hid (digK s base (b' + 1) pos v ok = if base ≤ digitV (Utf8.decode s pos).1 then (pos, v, ok) else digK s base b' (pos + (Utf8.decode s pos).2) ((v * base + digitV (Utf8.decode s pos).1) % 18446744073709551616) (ok && decide (v ≤ (18446744073709551615 - digitV (Utf8.decode s pos).1) / base))) := by show _ = _; simp [digK, hp]
      generalize (Utf8.decode s pos).1 = r at *
      generalize (Utf8.decode s pos).2 = wd at *
      have hcd := digit_calls r (w.iter s (pos + wd))
      have hd16 := digitV_le r
      generalize digitV r = d at *
      by_cases hbd : base ≤ d
      · go_wp2_with (go_at_call 51; refine hcd.mono ?_; rintro e w' ⟨rfl, hw⟩; obtain rfl := hw)
        go_ret3
        refine ⟨?_, below_iter _ _ _⟩
        rw [← HK.out, HK2.out, if_pos hbd]
        rfl
      · cases ok
        · go_wp2_with (go_at_call 51; refine hcd.mono ?_; rintro e w' ⟨rfl, hw⟩; obtain rfl := hw)
          refine ⟨⟨pos + wd, b', (v * base + d) % 18446744073709551616, false, rfl, by rw [wrap_dig], rfl, ?_, by omega, by omega, by omega⟩, by simp; omega⟩
          rw [Hid, ← HK.out, HK2.out, if_neg hbd]
          rfl
        · go_wp2_with (go_at_call 51; refine hcd.mono ?_; rintro e w' ⟨rfl, hw⟩; obtain rfl := hw)
          refine ⟨⟨pos + wd, b', (v * base + d) % 18446744073709551616, decide (v ≤ (18446744073709551615 - d) / base), rfl, by rw [wrap_dig], by rw [fits_dig v d base (by omega)], ?_, by omega, by omega, by omega⟩, by simp; omega⟩
          rw [Hid, ← HK.out, HK2.out, if_neg hbd]
          rfl
    · have hnx : ∀ ty, (Instr.next (.pointer (some ⟨w.heap.size, 0, none⟩)) true ty).run Tryd.prog (w.iter s pos) = _ := fun ty => run_next_end w s pos ty hp
      go_wp2_with fail
      go_ret3
      refine ⟨?_, below_iter _ _ _⟩
      rw [← HK.out, digK_end hp]
      rfl
end Go.Proofs.YtkgppagpjbkhmaaDoor
