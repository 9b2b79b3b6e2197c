/- The contract of package rel's Plus. -/
import Derived.Test.YtpflelkdkpabbaaDoorCopyOpt
namespace Go.Proofs.YtpflelkdkpabbaaDoor
open Go.RowKit Go.Shelf Sx

def plusRow (A : List Nat) (via p : Nat) : List Nat := if (gr A p).testBit via then A.set p (gr A p ||| gr A via) else A
def plusVia (A : List Nat) (via k : Nat) : List Nat := (List.range k).foldl (fun A p => plusRow A via p) A
def plusN (L : List Nat) (k : Nat) : List Nat := (List.range k).foldl (fun A via => plusVia A via L.length) L
def plusL (L : List Nat) : List Nat := plusN L L.length
theorem plusRow_length (A : List Nat) (via p : Nat) : (plusRow A via p).length = A.length := by unfold plusRow; split <;> simp
theorem plusVia_succ (A : List Nat) (via k : Nat) : plusVia A via (k + 1) = plusRow (plusVia A via k) via k := by simp [plusVia, List.range_succ]
theorem plusN_succ (L : List Nat) (k : Nat) : plusN L (k + 1) = plusVia (plusN L k) k L.length := by simp [plusN, List.range_succ]
theorem plusVia_length (A : List Nat) (via k : Nat) : (plusVia A via k).length = A.length := by
  induction k with
  | zero => rfl
  | succ k ih => rw [plusVia_succ, plusRow_length, ih]
theorem plusN_length (L : List Nat) (k : Nat) : (plusN L k).length = L.length := by
  induction k with
  | zero => rfl
  | succ k ih => rw [plusN_succ, plusVia_length, ih]

set_option maxHeartbeats 40000000 in
theorem Plus_calls (ba ca : Nat) (L : List Nat) (w : World) (h : IsRel w ba ca L) :
    Calls Tryd.prog 34 #[pv ba] w fun e w' => ∃ b c, e = .returned (pv b) ∧ Made w w' b c (plusL L) := by
  have hl := h.len
  go_enter Tryd.func34, Tryd.ntmps34
  go_wp2_with fail
  refine (Copy_calls ba ca L _ h).mono ?_
  rintro e w1 ⟨b, c, rfl, hM1⟩
  have hh := hM1.rel.hcell
  go_wp2_with fail
  clear hh h
  go_loopw [13] (fun i wr => ∃ k : Nat, k ≤ L.length ∧ i = .int .i64 k ∧ Made w wr b c (plusN L k)) (fun i _ => L.length - (intOf i).toNat)
  case atStart => exact ⟨0, by omega, rfl, hM1⟩
  case round =>
    clear hM1
    obtain ⟨k, hk, rfl, hM⟩ := hrel
    by_cases hlt : k < L.length
    · have HE : Hid (_ = _) := plusN_succ L k
      have hlA := plusN_length L k
      generalize plusN L k = A at *
      have hh := hM.rel.hcell
      rw [hlA] at hh
      have HA : Hid (A.length = L.length) := hlA
      clear hlA
      go_wp2_with fail
      clear hh
      go_loopw [21] (fun i wr => ∃ p : Nat, p ≤ L.length ∧ i = .int .i64 p ∧ Made w wr b c (plusVia A k p)) (fun i _ => L.length - (intOf i).toNat)
      case atStart => exact ⟨0, by omega, rfl, hM⟩
      case round =>
        clear hM
        obtain ⟨p, hp, rfl, hM⟩ := hrel
        by_cases hlt2 : p < L.length
        · have HE2 : Hid (_ = _) := plusVia_succ A k p
          have hlB : (plusVia A k p).length = L.length := by rw [plusVia_length, HA.out]
          generalize plusVia A k p = B at *
          have hpB : p < B.length := by omega
          have hkB : k < B.length := by omega
          obtain ⟨y, ⟨y0, y1, y2, y3⟩, _, q1, q2⟩ := hM.rel.slots (gr_of hpB)
          have HlB : Hid (B.length = L.length) := hlB
          clear hlB
          have hp256 : p < 256 := by omega
          go_wp2_with fail
          refine (has_calls (gr B p) k (by omega) _).mono ?_
          rintro e w2 ⟨rfl, hB2⟩
          have hM2 := hM.step hB2
          clear y y0 y1 y2 y3 q1 q2 hM hB2
          cases hbit : (gr B p).testBit k
          · have HF : Hid (plusRow B k p = B) := by show _ = _; simp [plusRow, hbit]
            go_wp2_with fail
            refine ⟨⟨p + 1, by omega, by go_num, ?_⟩, by simp [intOf]; omega⟩
            rw [HE2.out, HF.out]
            exact hM2
          · have HF : Hid (plusRow B k p = B.set p (gr B p ||| gr B k)) := by show _ = _; simp [plusRow, hbit]
            have HR : Hid (gr B p ||| gr B k < 2 ^ B.length) := or_lt (hM2.rel.gr_lt p) (hM2.rel.gr_lt k)
            clear hbit
            have hg := gr_of hpB
            have HG : Hid (B[p]? = some (gr B p)) := hg
            obtain ⟨y, ⟨y0, y1, y2, y3⟩, _, q1, q2⟩ := hM2.rel.slots hg
            obtain ⟨v0, v1, v2, v3⟩ := hM2.rel.cells (gr_of hkB)
            clear hg
            go_wp2_with fail
            clear hlt hk hp
            go_region_with (go_at_call 50; refine (join_calls (gr B p) (gr B k) _ _ (by rw [two_lit]; exact (Blk.new _ _ _).drew)).mono ?_; rintro e w3 ⟨rfl, hB3⟩; have hM3 := (hM2.alloc _).drew.step hB3; clear y y0 y1 y2 y3 v0 v1 v2 v3; obtain ⟨z, ⟨z0, z1, z2, z3⟩, ⟨f0, f1, f2, f3⟩, q5, q6⟩ := hM3.rel.slots HG.out)
            all_goals
              go_wp2_with fail
              refine ⟨⟨p + 1, by omega, by go_num, ?_⟩, by simp [intOf]; omega⟩
              rw [HE2.out, HF.out]
              exact hM3.put hpB HR.out
        · obtain rfl : p = L.length := by omega
          go_wp2_with fail
          refine ⟨⟨k + 1, by omega, by go_num, ?_⟩, by simp [intOf]; omega⟩
          rw [HE.out]
          exact hM
    · obtain rfl : k = L.length := by omega
      go_wp2_with fail
      go_ret
      exact ⟨b, c, rfl, hM⟩
end Go.Proofs.YtpflelkdkpabbaaDoor
