/- The contracts of package rel's byRows, Inter and Minus. -/
import Derived.Test.YtpflelkdkpabbaaDoorFillMem
namespace Go.Proofs.YtpflelkdkpabbaaDoor
open Go.RowKit Go.Shelf Sx

set_option maxHeartbeats 4000000 in
theorem Inter_at (ba ca bb cb : Nat) (A B : List Nat) (w : World) (ha : IsRel w ba ca A) (hb : IsRel w bb cb B) (N : Nat) (HN : Hid (max A.length B.length = N)) (f : Nat → Nat) (Hf : Hid (f = fun p => gr A p &&& gr B p)) :
    Calls Tryd.prog 51 #[pv ba, pv bb, .func (.func 48) #[] #[]] w fun e w' => ∃ b c, e = .returned (pv b) ∧ Made w w' b c (fillK N f N) := by
  have hla := ha.len
  have hlb := hb.len
  have hN256 : N ≤ 256 := by rw [← HN.out]; omega
  go_enter Tryd.func51, Tryd.ntmps51
  have hmax : (if A.length < B.length then (B.length : Int) else (A.length : Int)) = (N : Int) := by rw [max_if, HN.out]
  go_wp2_with fail
  refine (Len_c ba ca A _ ha).mono ?_
  rintro e w' ⟨rfl, rfl⟩
  go_wp2_with fail
  refine (Len_c bb cb B _ hb).mono ?_
  rintro e w' ⟨rfl, rfl⟩
  go_wp2_with fail
  refine (New_c N hN256 _).mono ?_
  rintro e w1 ⟨b, c, rfl, hM1⟩
  have hh := hM1.rel.hcell
  rw [List.length_replicate] at hh
  go_wp2_with fail
  clear hmax hh
  go_loopw [20] (fun i wr => ∃ k : Nat, k ≤ N ∧ i = .int .i64 k ∧ Made w wr b c (fillK N f k)) (fun i _ => N - (intOf i).toNat)
  case atStart => exact ⟨0, by omega, rfl, by rw [fillK_zero]; exact hM1⟩
  case round =>
    clear hM1
    obtain ⟨k, hk, rfl, hM⟩ := hrel
    by_cases hlt : k < N
    · have hg : (fillK N f k)[k]? = some 0 := by rw [fillK_at hlt, if_neg (by omega)]
      have y := hM.rel.hcell
      have q3 := hM.rel.head.lt
      have q4 := hM.rel.rows.lt
      have hku : k < (fillK N f k).length := by rw [fillK_length]; exact hlt
      have HE : Hid (_ = _) := fillK_succ (f := f) hlt
      have HF : Hid (f k = gr A k &&& gr B k) := by show _ = _; rw [Hf.out]
      have HR : Hid (f k < 2 ^ (fillK N f k).length) := by
        show _ < _
        rw [fillK_length, HF.out]
        exact and_lt (Nat.lt_of_lt_of_le (ha.gr_lt k) (Nat.pow_le_pow_right (by omega) (by rw [← HN.out]; omega)))
      go_wp2_with fail
      go_region_held3 (fun w' => w'.cell? ⟨b, 0, none⟩ = some (.slice (some ⟨c, 0, none⟩) (fillK N f k).length (fillK N f k).length)) (first | go_keep | (simp only [cell4 hne1]; exact z))
        (first | (go_at_call_of 79 (pv ba); refine (rowAt_calls ba ca A k _ (hM.old ha).drew).mono ?_; rintro e w2 ⟨rfl, hB2⟩; have hM2 := hM.drew.step hB2; have z2 := hM2.rel.hcell) | (go_at_call_of 79 (pv bb); refine (rowAt_calls bb cb B k _ (hM2.old hb)).mono ?_; rintro e w3 ⟨rfl, hB3⟩; have hM3 := hM2.step hB3; have z3 := hM3.rel.hcell) | (go_at_call 48; refine (meet_calls (gr A k) (gr B k) _).mono ?_; rw [← HF.out]; rintro e w4 ⟨rfl, hB4⟩; have hM4 := hM3.step hB4; obtain ⟨z, ⟨y0, y1, y2, y3⟩, ⟨f0, f1, f2, f3⟩, q5, q6⟩ := hM4.rel.slots hg; have hne1 : b ≠ c := hM4.rel.ne))
      all_goals
        go_wp2_with fail
        refine ⟨⟨k + 1, by omega, by go_num, ?_⟩, by simp [intOf]; omega⟩
        rw [← HE.out]
        exact hM4.put hku HR.out
    · obtain rfl : k = N := by omega
      go_wp2_with fail
      go_ret
      exact ⟨b, c, rfl, hM⟩
set_option maxHeartbeats 400000 in
theorem Inter_calls (ba ca bb cb : Nat) (A B : List Nat) (w : World) (ha : IsRel w ba ca A) (hb : IsRel w bb cb B) :
    Calls Tryd.prog 22 #[pv ba, pv bb] w fun e w' => ∃ b c, e = .returned (pv b) ∧ Made w w' b c (interL A B) := by
  have H : Hid (∀ w, IsRel w ba ca A → IsRel w bb cb B → Calls Tryd.prog 51 #[pv ba, pv bb, .func (.func 48) #[] #[]] w fun e w' => ∃ b c, e = .returned (pv b) ∧ Made w w' b c (interL A B)) := fun w ha hb => Inter_at ba ca bb cb A B w ha hb _ rfl _ rfl
  go_enter Tryd.func22, Tryd.ntmps22
  go_wp2_with fail
  refine (H.out _ ha hb).mono ?_
  rintro e w1 ⟨b, c, rfl, hM1⟩
  go_wp2_with fail
  go_ret
  exact ⟨b, c, rfl, hM1⟩

set_option maxHeartbeats 4000000 in
theorem Minus_at (ba ca bb cb : Nat) (A B : List Nat) (w : World) (ha : IsRel w ba ca A) (hb : IsRel w bb cb B) (N : Nat) (HN : Hid (max A.length B.length = N)) (f : Nat → Nat) (Hf : Hid (f = fun p => ldiff (gr A p) (gr B p))) :
    Calls Tryd.prog 51 #[pv ba, pv bb, .func (.func 52) #[] #[]] w fun e w' => ∃ b c, e = .returned (pv b) ∧ Made w w' b c (fillK N f N) := by
  have hla := ha.len
  have hlb := hb.len
  have hN256 : N ≤ 256 := by rw [← HN.out]; omega
  go_enter Tryd.func51, Tryd.ntmps51
  have hmax : (if A.length < B.length then (B.length : Int) else (A.length : Int)) = (N : Int) := by rw [max_if, HN.out]
  go_wp2_with fail
  refine (Len_c ba ca A _ ha).mono ?_
  rintro e w' ⟨rfl, rfl⟩
  go_wp2_with fail
  refine (Len_c bb cb B _ hb).mono ?_
  rintro e w' ⟨rfl, rfl⟩
  go_wp2_with fail
  refine (New_c N hN256 _).mono ?_
  rintro e w1 ⟨b, c, rfl, hM1⟩
  have hh := hM1.rel.hcell
  rw [List.length_replicate] at hh
  go_wp2_with fail
  clear hmax hh
  go_loopw [20] (fun i wr => ∃ k : Nat, k ≤ N ∧ i = .int .i64 k ∧ Made w wr b c (fillK N f k)) (fun i _ => N - (intOf i).toNat)
  case atStart => exact ⟨0, by omega, rfl, by rw [fillK_zero]; exact hM1⟩
  case round =>
    clear hM1
    obtain ⟨k, hk, rfl, hM⟩ := hrel
    by_cases hlt : k < N
    · have hg : (fillK N f k)[k]? = some 0 := by rw [fillK_at hlt, if_neg (by omega)]
      have y := hM.rel.hcell
      have q3 := hM.rel.head.lt
      have q4 := hM.rel.rows.lt
      have hku : k < (fillK N f k).length := by rw [fillK_length]; exact hlt
      have HE : Hid (_ = _) := fillK_succ (f := f) hlt
      have HF : Hid (f k = ldiff (gr A k) (gr B k)) := by show _ = _; rw [Hf.out]
      have HR : Hid (f k < 2 ^ (fillK N f k).length) := by
        show _ < _
        rw [fillK_length, HF.out]
        exact ldiff_lt (Nat.lt_of_lt_of_le (ha.gr_lt k) (Nat.pow_le_pow_right (by omega) (by rw [← HN.out]; omega)))
      go_wp2_with fail
      go_region_held3 (fun w' => w'.cell? ⟨b, 0, none⟩ = some (.slice (some ⟨c, 0, none⟩) (fillK N f k).length (fillK N f k).length)) (first | go_keep | (simp only [cell4 hne1]; exact z))
        (first | (go_at_call_of 79 (pv ba); refine (rowAt_calls ba ca A k _ (hM.old ha).drew).mono ?_; rintro e w2 ⟨rfl, hB2⟩; have hM2 := hM.drew.step hB2; have z2 := hM2.rel.hcell) | (go_at_call_of 79 (pv bb); refine (rowAt_calls bb cb B k _ (hM2.old hb)).mono ?_; rintro e w3 ⟨rfl, hB3⟩; have hM3 := hM2.step hB3; have z3 := hM3.rel.hcell) | (go_at_call 52; refine (without_calls (gr A k) (gr B k) _).mono ?_; rw [← HF.out]; rintro e w4 ⟨rfl, hB4⟩; have hM4 := hM3.step hB4; obtain ⟨z, ⟨y0, y1, y2, y3⟩, ⟨f0, f1, f2, f3⟩, q5, q6⟩ := hM4.rel.slots hg; have hne1 : b ≠ c := hM4.rel.ne))
      all_goals
        go_wp2_with fail
        refine ⟨⟨k + 1, by omega, by go_num, ?_⟩, by simp [intOf]; omega⟩
        rw [← HE.out]
        exact hM4.put hku HR.out
    · obtain rfl : k = N := by omega
      go_wp2_with fail
      go_ret
      exact ⟨b, c, rfl, hM⟩
set_option maxHeartbeats 400000 in
theorem Minus_calls (ba ca bb cb : Nat) (A B : List Nat) (w : World) (ha : IsRel w ba ca A) (hb : IsRel w bb cb B) :
    Calls Tryd.prog 23 #[pv ba, pv bb] w fun e w' => ∃ b c, e = .returned (pv b) ∧ Made w w' b c (minusL A B) := by
  have H : Hid (∀ w, IsRel w ba ca A → IsRel w bb cb B → Calls Tryd.prog 51 #[pv ba, pv bb, .func (.func 52) #[] #[]] w fun e w' => ∃ b c, e = .returned (pv b) ∧ Made w w' b c (minusL A B)) := fun w ha hb => Minus_at ba ca bb cb A B w ha hb _ rfl _ rfl
  go_enter Tryd.func23, Tryd.ntmps23
  go_wp2_with fail
  refine (H.out _ ha hb).mono ?_
  rintro e w1 ⟨b, c, rfl, hM1⟩
  go_wp2_with fail
  go_ret
  exact ⟨b, c, rfl, hM1⟩
end Go.Proofs.YtpflelkdkpabbaaDoor
