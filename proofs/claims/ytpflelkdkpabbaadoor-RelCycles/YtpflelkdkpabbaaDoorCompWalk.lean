/- The contract of package rel's Comp. -/
import Derived.Test.YtpflelkdkpabbaaDoorFillMem
namespace Go.Proofs.YtpflelkdkpabbaaDoor
open Go.RowKit Go.Shelf Sx
set_option maxHeartbeats 4000000 in
theorem Comp_at (ba ca bb cb : Nat) (A B : List Nat) (w : World) (ha : IsRel w ba ca A) (hb : IsRel w bb cb B) (hT : Tab w) (N : Nat) (HN : Hid (max A.length B.length = N)) (f : Nat → Nat) (Hf : Hid (f = fun p => joinRows B (bitsOf (gr A p)))) :
    Calls Tryd.prog 15 #[pv ba, pv bb] w fun e w' => ∃ b c, e = .returned (pv b) ∧ Made w w' b c (fillK N f A.length) := by
  have hla := ha.len
  have hlb := hb.len
  have hNA : A.length ≤ N := by rw [← HN.out]; omega
  have hN256 : N ≤ 256 := by rw [← HN.out]; omega
  go_enter Tryd.func15, Tryd.ntmps15
  have hmax : (if A.length < B.length then (B.length : Int) else (A.length : Int)) = (N : Int) := by rw [max_if, HN.out]
  go_wp2_with fail
  refine (Len_c ba ca A _ ha).mono ?_
  rintro e w' ⟨rfl, rfl⟩
  go_wp2_with fail
  refine (Len_c bb cb B _ hb).mono ?_
  rintro e w' ⟨rfl, rfl⟩
  go_wp2_with fail
  refine (New_c N hN256 _).mono ?_
  rintro e w1 ⟨b, c, rfl, hM1⟩
  have hh := (hM1.old ha).hcell
  go_wp2_with fail
  clear hmax hh
  go_loopw [19] (fun i wr => ∃ k : Nat, k ≤ A.length ∧ i = .int .i64 k ∧ Made w wr b c (fillK N f k)) (fun i _ => A.length - (intOf i).toNat)
  case atStart => exact ⟨0, by omega, rfl, by rw [fillK_zero]; exact hM1⟩
  case round =>
    clear hM1
    obtain ⟨k, hk, rfl, hM⟩ := hrel
    by_cases hlt : k < A.length
    · have hkN : k < N := by omega
      have hro := hM.old ha
      obtain ⟨_, ⟨x0, x1, x2, x3⟩, _, q1, q2⟩ := hro.slots (gr_of hlt)
      have hg : (fillK N f k)[k]? = some 0 := by rw [fillK_at hkN, if_neg (by omega)]
      have y := hM.rel.hcell
      have q3 := hM.rel.head.lt
      have q4 := hM.rel.rows.lt
      have hku : k < (fillK N f k).length := by rw [fillK_length]; exact hkN
      have HE : Hid (_ = _) := fillK_succ (f := f) hkN
      have HF : Hid (f k = joinRows B (bitsOf (gr A k))) := by show _ = _; rw [Hf.out]
      have HR : Hid (f k < 2 ^ (fillK N f k).length) := by
        show _ < _
        rw [fillK_length, HF.out]
        exact Nat.lt_of_lt_of_le (joinRows_lt hb.low _) (Nat.pow_le_pow_right (by omega) (by rw [← HN.out]; omega))
      have hbox : Blk (wr.alloc (.cells (rcs (gr A k)) 71)) wr.heap.size 71 (rcs (gr A k)) := Blk.new _ _ _
      go_wp2_with fail
      clear x0 x1 x2 x3
      go_region_held3 (fun w' => w'.cell? ⟨b, 0, none⟩ = some (.slice (some ⟨c, 0, none⟩) (fillK N f k).length (fillK N f k).length) ∧ w'.cell? ⟨wr.heap.size, 0, none⟩ = some (.int .u64 ((wd (gr A k) 0 : Nat) : Int)) ∧ w'.cell? ⟨wr.heap.size, 1, none⟩ = some (.int .u64 ((wd (gr A k) 1 : Nat) : Int)) ∧ w'.cell? ⟨wr.heap.size, 2, none⟩ = some (.int .u64 ((wd (gr A k) 2 : Nat) : Int)) ∧ w'.cell? ⟨wr.heap.size, 3, none⟩ = some (.int .u64 ((wd (gr A k) 3 : Nat) : Int))) (first | go_keep | (simp only [cell4 hne1, cell4 hne2]; exact ⟨z, t0, t1, t2, t3⟩))
        (first | (go_at_call 46; refine (step_calls bb cb B (gr A k) _ (((hM.alloc _).old hb).drew) ((hT.step (hM.alloc _).below).drew)).mono ?_; rw [← HF.out]; rintro e w2 ⟨rfl, hB2⟩; have hM2 := (hM.alloc _).drew.step hB2; obtain ⟨z, ⟨z0, z1, z2, z3⟩, ⟨f0, f1, f2, f3⟩, q5, q6⟩ := hM2.rel.slots hg; obtain ⟨⟨t0, t1, t2, t3⟩, _, q7⟩ := (hbox.drew.of_below hB2).row; have hne1 : b ≠ c := hM2.rel.ne; have hne2 : wr.heap.size ≠ c := by omega))
      all_goals
        go_wp2_with fail
        refine ⟨⟨k + 1, by omega, by go_num, ?_⟩, by simp [intOf]; omega⟩
        rw [← HE.out]
        exact hM2.put hku HR.out
    · obtain rfl : k = A.length := by omega
      go_wp2_with fail
      go_ret
      exact ⟨b, c, rfl, hM⟩
theorem Comp_calls (ba ca bb cb : Nat) (A B : List Nat) (w : World) (ha : IsRel w ba ca A) (hb : IsRel w bb cb B) (hT : Tab w) :
    Calls Tryd.prog 15 #[pv ba, pv bb] w fun e w' => ∃ b c, e = .returned (pv b) ∧ Made w w' b c (compL A B) :=
  Comp_at ba ca bb cb A B w ha hb hT _ rfl _ rfl
end Go.Proofs.YtpflelkdkpabbaaDoor
