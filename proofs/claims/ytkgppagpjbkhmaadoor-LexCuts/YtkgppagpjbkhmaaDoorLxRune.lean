/- The contracts of the reference's more and rune0. -/
import Derived.Test.YtkgppagpjbkhmaaDoorLxRMath
namespace Go.Proofs.YtkgppagpjbkhmaaDoor
open Go.RowKit Go.Shelf

theorem byteAt_list (s : ByteArray) (i : Nat) (h : i < s.data.toList.length) : (s.data.toList[i]).toNat = byteAt s i := by
  have h' : i < s.size := by simpa using h
  have h2 : i < s.data.size := by simpa using h
  unfold byteAt
  congr 1
  have : s.get! i = s.data[i]! := rfl
  rw [this, getElem!_pos s.data i h2]
  simp
theorem bytes_at {w : World} {v : Value} {s : ByteArray} (h : BytesR w v s) {i : Nat} (hi : i < s.size) : ∃ g o cap, v = .slice (some ⟨g, o, none⟩) s.size cap ∧ ∀ j, j < s.size → w.cell? ⟨g, o + j, none⟩ = some (.int .u8 ((byteAt s j : Nat) : Int)) := by
  rcases h with ⟨x, cap, h, rfl⟩ | ⟨g, o, cap, h, _, h3⟩
  · exact absurd hi (by simp [ByteArray.size])
  · refine ⟨g, o, cap, h, fun j hj => ?_⟩
    have hj' : j < s.data.toList.length := by simpa using hj
    rw [h3 j hj', byteAt_list s j hj']
theorem okK_step (s : ByteArray) (pos lo hi : Nat) : ∀ k, 1 ≤ k → okK s pos lo hi (k + 1) = (okK s pos lo hi k && okAt s (pos + k) (if k = 1 then lo else 128) (if k = 1 then hi else 191))
  | 0, h => by omega
  | 1, _ => by simp [okK]
  | k + 2, _ => by
    rw [if_neg (by omega), if_neg (by omega)]
    rfl
theorem okK_no (s : ByteArray) (pos lo hi k : Nat) (hk : 1 ≤ k) (h : okAt s (pos + k) (if k = 1 then lo else 128) (if k = 1 then hi else 191) = false) : ∀ n, k < n → okK s pos lo hi n = false := by
  intro n
  induction n with
  | zero => intro h; omega
  | succ n ih =>
    intro hn
    rw [okK_step s pos lo hi n (by omega)]
    by_cases e : n = k
    · subst e
      rw [h, Bool.and_false]
    · rw [ih (by omega), Bool.false_and]
theorem vK_step (s : ByteArray) (pos : Nat) (v0 : Int) (k : Nat) (hk : 1 ≤ k) : vK s pos v0 (k + 1) = vK s pos v0 k * 64 + (byteAt s (pos + k) : Int) - 128 := by
  obtain ⟨m, rfl⟩ : ∃ m, k = m + 1 := ⟨k - 1, by omega⟩
  rfl
set_option maxHeartbeats 1000000 in
theorem more_calls (v : Value) (s : ByteArray) (i lo hi : Nat) (w : World) (hv : BytesR w v s) :
    Calls Tryd.prog 47 #[v, .int .i64 ((i : Nat) : Int), .int .u8 ((lo : Nat) : Int), .int .u8 ((hi : Nat) : Int)] w fun e w' => e = .returned (.bool (okAt s i lo hi)) ∧ w' = w := by
  by_cases h : i < s.size
  · obtain ⟨g, o, cap, rfl, hc⟩ := bytes_at hv h
    have c0 := hc i h
    have i0 : (0 : Int) ≤ ((i : Nat) : Int) := by omega
    have i1 : ((i : Nat) : Int) < ((s.size : Nat) : Int) := by omega
    have HO : Hid (okAt s i lo hi = (decide (i < s.size) && decide (lo ≤ byteAt s i) && decide (byteAt s i ≤ hi))) := rfl
    generalize byteAt s i = b at *
    clear hc hv
    go_enter Tryd.func47, Tryd.ntmps47
    go_wp2
    all_goals
      go_ret
      refine ⟨ret_bool ?_, rfl⟩
      rw [HO.out, Bool.eq_iff_iff]
      simp
      omega
  · obtain ⟨x, cap, rfl⟩ := hv.form
    have i1 : ¬ ((i : Nat) : Int) < ((s.size : Nat) : Int) := by omega
    have HO : Hid (okAt s i lo hi = false) := by show _ = _; simp [okAt, h]
    go_enter Tryd.func47, Tryd.ntmps47
    go_wp2_with fail
    go_ret
    exact ⟨ret_bool HO.out.symm, rfl⟩
theorem refF_def (s : ByteArray) (pos : Nat) : refF s pos = (if byteAt s pos < 128 then ((byteAt s pos : Int), 1)
  else if 194 ≤ byteAt s pos ∧ byteAt s pos ≤ 223 then refN s pos 2 128 191 ((byteAt s pos : Int) - 192)
  else if 224 ≤ byteAt s pos ∧ byteAt s pos ≤ 239 then refN s pos 3 (if byteAt s pos = 224 then 160 else 128) (if byteAt s pos = 237 then 159 else 191) ((byteAt s pos : Int) - 224)
  else if 240 ≤ byteAt s pos ∧ byteAt s pos ≤ 244 then refN s pos 4 (if byteAt s pos = 240 then 144 else 128) (if byteAt s pos = 244 then 143 else 191) ((byteAt s pos : Int) - 240)
  else (-1, 1)) := rfl
set_option maxRecDepth 100000 in
set_option maxHeartbeats 8000000 in
theorem rune0_calls (v : Value) (s : ByteArray) (pos : Nat) (w : World) (hv : BytesR w v s) (hp : pos < s.size) (hs : s.size ≤ 9223372036854775000) :
    Calls Tryd.prog 34 #[v, .int .i64 ((pos : Nat) : Int)] w fun e w' => e = .returned (.tuple #[.int .i64 (refF s pos).1, .int .i64 ((refF s pos).2 : Nat)]) ∧ w' = w := by
  obtain ⟨g, o, cap, rfl, hc⟩ := bytes_at hv hp
  have c0 := hc pos hp
  have HC := hid_of hc
  clear hc
  have p0 : (0 : Int) ≤ ((pos : Nat) : Int) := by omega
  have p1 : ((pos : Nat) : Int) < ((s.size : Nat) : Int) := by omega
  have hlt := byteAt_lt s pos
  have HF0 := refF_def s pos
  obtain ⟨b, HB⟩ : ∃ b, Hid (byteAt s pos = b) := ⟨_, rfl⟩
  rw [HB.out] at c0 HF0 hlt
  clear HB
  by_cases c1 : b < 128
  · have HF : Hid (refF s pos = ((b : Int), 1)) := HF0.trans (if_pos c1)
    have t1 : ((b : Nat) : Int) < 128 := by omega
    clear HF0
    go_enter Tryd.func34, Tryd.ntmps34
    go_wp2_with fail
    go_ret2
    exact ⟨by rw [HF.out]; rfl, rfl⟩
  have HF1 := HF0.trans (if_neg c1)
  clear HF0
  have HF0 := HF1
  clear HF1
  have t1 : ¬ ((b : Nat) : Int) < 128 := by omega
  by_cases c2 : 194 ≤ b ∧ b ≤ 223
  · have u1 : (194 : Int) ≤ ((b : Nat) : Int) := by omega
    have HF : Hid (refF s pos = refN s pos 2 128 191 ((b : Int) - 192)) := HF0.trans (if_pos c2)
    have u2 : ((b : Nat) : Int) ≤ 223 := by omega
    clear HF0
    go_enter Tryd.func34, Tryd.ntmps34
    go_wp2_with fail
    clear c0
    go_loopw [7, 8, 10, 11] (fun l h x k wr => ∃ (kk ln hn : Nat) (xv : Int), 1 ≤ kk ∧ kk ≤ 2 ∧ k = .int .i64 ((kk : Nat) : Int) ∧ l = .int .u8 ((ln : Nat) : Int) ∧ h = .int .u8 ((hn : Nat) : Int) ∧ x = .int .i64 xv ∧ 0 ≤ xv ∧ xv ≤ 8388607 ∧ Hid (ln = (if kk = 1 then 128 else 128) ∧ hn = (if kk = 1 then 191 else 191) ∧ xv = vK s pos ((b : Int) - 192) kk ∧ okK s pos 128 191 kk = true ∧ ((kk = 1 ∧ xv ≤ 31) ∨ (kk = 2 ∧ xv ≤ 2047) ∨ (kk = 3 ∧ xv ≤ 131071) ∨ kk = 4)) ∧ wr = w) (fun _ _ _ k _ => 2 - (intOf k).toNat)
    case atStart => exact ⟨1, 128, 191, (b : Int) - 192, by omega, by omega, rfl, rfl, rfl, by first | rfl | (congr 1; omega), by omega, by omega, ⟨rfl, rfl, rfl, rfl, .inl ⟨rfl, by omega⟩⟩, rfl⟩
    case round =>
      obtain ⟨kk, ln, hn, xv, hk1, hk2, rfl, rfl, rfl, rfl, hx0, hx1, HR, rfl⟩ := hrel
      by_cases hlt : kk < 2
      · have t1 : ((kk : Nat) : Int) < 2 := by omega
        have hm := more_calls (.slice (some ⟨g, o, none⟩) s.size cap) s (pos + kk) ln hn wr hv
        rw [Int.natCast_add] at hm
        cases hok : okAt s (pos + kk) ln hn
        · have HE : Hid (refF s pos = (-1, 1)) := by
            rw [Hid, HF.out]
            unfold refN
            rw [okK_no s pos 128 191 kk hk1 (by rw [← HR.out.1, ← HR.out.2.1]; exact hok) 2 hlt]
            rfl
          rw [hok] at hm
          clear hok
          go_wp2_with (go_at_call 47; refine hm.mono ?_; rintro e w' ⟨rfl, hw⟩; obtain rfl : wr = w' := hw.symm)
          go_ret2
          exact ⟨by rw [HE.out]; rfl, rfl⟩
        · have hok2 := okAt_iff.1 hok
          have HO : Hid (okK s pos 128 191 (kk + 1) = true) := by
            rw [Hid, okK_step s pos 128 191 kk hk1, HR.out.2.2.2.1, ← HR.out.1, ← HR.out.2.1, hok]
            rfl
          have HV : Hid (vK s pos ((b : Int) - 192) (kk + 1) = xv * 64 + (byteAt s (pos + kk) : Int) - 128) := by
            rw [Hid, vK_step s pos _ kk hk1, ← HR.out.2.2.1]
          have cz := HC.out (pos + kk) hok2.1
          have hb1 : 128 ≤ byteAt s (pos + kk) ∧ byteAt s (pos + kk) ≤ 191 := by
            have h1 := HR.out.1
            have h2 := HR.out.2.1
            split at h1 <;> split at h2 <;> omega
          have HBd : Hid ((kk = 1 ∧ xv ≤ 31) ∨ (kk = 2 ∧ xv ≤ 2047) ∨ (kk = 3 ∧ xv ≤ 131071) ∨ kk = 4) := HR.out.2.2.2.2
          have i0 : (0 : Int) ≤ ((pos : Nat) : Int) + ((kk : Nat) : Int) := by omega
          have i1 : ((pos : Nat) : Int) + ((kk : Nat) : Int) < ((s.size : Nat) : Int) := by omega
          have hxb : xv ≤ 131071 := by
            have := HBd.out
            omega
          rw [hok] at hm
          generalize byteAt s (pos + kk) = bb at *
          clear hok hok2 HR hx1
          go_wp2_with (go_at_call 47; refine hm.mono ?_; rintro e w' ⟨rfl, hw⟩; obtain rfl : wr = w' := hw.symm)
          refine ⟨⟨kk + 1, 128, 191, xv * 64 + (bb : Int) - 128, by omega, by omega, by go_num, rfl, rfl, rfl, by omega, by omega, ⟨by rw [if_neg (by omega)], by rw [if_neg (by omega)], HV.out.symm, HO.out, ?_⟩, by trivial⟩, by simp [intOf]; omega⟩
          have := HBd.out
          omega
      · obtain rfl : kk = 2 := by omega
        have HE : Hid (refF s pos = (xv, 2)) := by
          rw [Hid, HF.out]
          unfold refN
          rw [HR.out.2.2.2.1, if_pos rfl, ← HR.out.2.2.1]
        go_wp2_with fail
        go_ret2
        exact ⟨by rw [HE.out]; rfl, rfl⟩
  have HF1 := HF0.trans (if_neg c2)
  clear HF0
  have HF0 := HF1
  clear HF1
  by_cases c3 : 224 ≤ b ∧ b ≤ 239
  · by_cases e1 : b = 224
    · have hz : True := trivial
      have HF : Hid (refF s pos = refN s pos 3 160 191 ((b : Int) - 224)) := HF0.trans ((if_pos c3).trans (by rw [if_pos e1, if_neg (show ¬ b = 237 by omega)]))
      have u1 : (194 : Int) ≤ ((b : Nat) : Int) := by omega
      have u2 : ¬ ((b : Nat) : Int) ≤ 223 := by omega
      have u3 : (224 : Int) ≤ ((b : Nat) : Int) := by omega
      have u4 : ((b : Nat) : Int) ≤ 239 := by omega
      have u7 : (((b : Nat) : Int) == 224) = true := by rw [beq_iff_eq]; omega
      have u8 : (((b : Nat) : Int) == 237) = false := by rw [beq_eq_false_iff_ne]; omega
      clear HF0
      go_enter Tryd.func34, Tryd.ntmps34
      go_wp2_with fail
      clear c0
      go_loopw [7, 8, 10, 11] (fun l h x k wr => ∃ (kk ln hn : Nat) (xv : Int), 1 ≤ kk ∧ kk ≤ 3 ∧ k = .int .i64 ((kk : Nat) : Int) ∧ l = .int .u8 ((ln : Nat) : Int) ∧ h = .int .u8 ((hn : Nat) : Int) ∧ x = .int .i64 xv ∧ 0 ≤ xv ∧ xv ≤ 8388607 ∧ Hid (ln = (if kk = 1 then 160 else 128) ∧ hn = (if kk = 1 then 191 else 191) ∧ xv = vK s pos ((b : Int) - 224) kk ∧ okK s pos 160 191 kk = true ∧ ((kk = 1 ∧ xv ≤ 31) ∨ (kk = 2 ∧ xv ≤ 2047) ∨ (kk = 3 ∧ xv ≤ 131071) ∨ kk = 4)) ∧ wr = w) (fun _ _ _ k _ => 3 - (intOf k).toNat)
      case atStart => exact ⟨1, 160, 191, (b : Int) - 224, by omega, by omega, rfl, rfl, rfl, by first | rfl | (congr 1; omega), by omega, by omega, ⟨rfl, rfl, rfl, rfl, .inl ⟨rfl, by omega⟩⟩, rfl⟩
      case round =>
        obtain ⟨kk, ln, hn, xv, hk1, hk2, rfl, rfl, rfl, rfl, hx0, hx1, HR, rfl⟩ := hrel
        by_cases hlt : kk < 3
        · have t1 : ((kk : Nat) : Int) < 3 := by omega
          have hm := more_calls (.slice (some ⟨g, o, none⟩) s.size cap) s (pos + kk) ln hn wr hv
          rw [Int.natCast_add] at hm
          cases hok : okAt s (pos + kk) ln hn
          · have HE : Hid (refF s pos = (-1, 1)) := by
              rw [Hid, HF.out]
              unfold refN
              rw [okK_no s pos 160 191 kk hk1 (by rw [← HR.out.1, ← HR.out.2.1]; exact hok) 3 hlt]
              rfl
            rw [hok] at hm
            clear hok
            go_wp2_with (go_at_call 47; refine hm.mono ?_; rintro e w' ⟨rfl, hw⟩; obtain rfl : wr = w' := hw.symm)
            go_ret2
            exact ⟨by rw [HE.out]; rfl, rfl⟩
          · have hok2 := okAt_iff.1 hok
            have HO : Hid (okK s pos 160 191 (kk + 1) = true) := by
              rw [Hid, okK_step s pos 160 191 kk hk1, HR.out.2.2.2.1, ← HR.out.1, ← HR.out.2.1, hok]
              rfl
            have HV : Hid (vK s pos ((b : Int) - 224) (kk + 1) = xv * 64 + (byteAt s (pos + kk) : Int) - 128) := by
              rw [Hid, vK_step s pos _ kk hk1, ← HR.out.2.2.1]
            have cz := HC.out (pos + kk) hok2.1
            have hb1 : 128 ≤ byteAt s (pos + kk) ∧ byteAt s (pos + kk) ≤ 191 := by
              have h1 := HR.out.1
              have h2 := HR.out.2.1
              split at h1 <;> split at h2 <;> omega
            have HBd : Hid ((kk = 1 ∧ xv ≤ 31) ∨ (kk = 2 ∧ xv ≤ 2047) ∨ (kk = 3 ∧ xv ≤ 131071) ∨ kk = 4) := HR.out.2.2.2.2
            have i0 : (0 : Int) ≤ ((pos : Nat) : Int) + ((kk : Nat) : Int) := by omega
            have i1 : ((pos : Nat) : Int) + ((kk : Nat) : Int) < ((s.size : Nat) : Int) := by omega
            have hxb : xv ≤ 131071 := by
              have := HBd.out
              omega
            rw [hok] at hm
            generalize byteAt s (pos + kk) = bb at *
            clear hok hok2 HR hx1
            go_wp2_with (go_at_call 47; refine hm.mono ?_; rintro e w' ⟨rfl, hw⟩; obtain rfl : wr = w' := hw.symm)
            refine ⟨⟨kk + 1, 128, 191, xv * 64 + (bb : Int) - 128, by omega, by omega, by go_num, rfl, rfl, rfl, by omega, by omega, ⟨by rw [if_neg (by omega)], by rw [if_neg (by omega)], HV.out.symm, HO.out, ?_⟩, by trivial⟩, by simp [intOf]; omega⟩
            have := HBd.out
            omega
        · obtain rfl : kk = 3 := by omega
          have HE : Hid (refF s pos = (xv, 3)) := by
            rw [Hid, HF.out]
            unfold refN
            rw [HR.out.2.2.2.1, if_pos rfl, ← HR.out.2.2.1]
          go_wp2_with fail
          go_ret2
          exact ⟨by rw [HE.out]; rfl, rfl⟩
    · by_cases e2 : b = 237
      · have hz : True := trivial
        have HF : Hid (refF s pos = refN s pos 3 128 159 ((b : Int) - 224)) := HF0.trans ((if_pos c3).trans (by rw [if_neg e1, if_pos e2]))
        have u1 : (194 : Int) ≤ ((b : Nat) : Int) := by omega
        have u2 : ¬ ((b : Nat) : Int) ≤ 223 := by omega
        have u3 : (224 : Int) ≤ ((b : Nat) : Int) := by omega
        have u4 : ((b : Nat) : Int) ≤ 239 := by omega
        have u7 : (((b : Nat) : Int) == 224) = false := by rw [beq_eq_false_iff_ne]; omega
        have u8 : (((b : Nat) : Int) == 237) = true := by rw [beq_iff_eq]; omega
        clear HF0
        go_enter Tryd.func34, Tryd.ntmps34
        go_wp2_with fail
        clear c0
        go_loopw [7, 8, 10, 11] (fun l h x k wr => ∃ (kk ln hn : Nat) (xv : Int), 1 ≤ kk ∧ kk ≤ 3 ∧ k = .int .i64 ((kk : Nat) : Int) ∧ l = .int .u8 ((ln : Nat) : Int) ∧ h = .int .u8 ((hn : Nat) : Int) ∧ x = .int .i64 xv ∧ 0 ≤ xv ∧ xv ≤ 8388607 ∧ Hid (ln = (if kk = 1 then 128 else 128) ∧ hn = (if kk = 1 then 159 else 191) ∧ xv = vK s pos ((b : Int) - 224) kk ∧ okK s pos 128 159 kk = true ∧ ((kk = 1 ∧ xv ≤ 31) ∨ (kk = 2 ∧ xv ≤ 2047) ∨ (kk = 3 ∧ xv ≤ 131071) ∨ kk = 4)) ∧ wr = w) (fun _ _ _ k _ => 3 - (intOf k).toNat)
        case atStart => exact ⟨1, 128, 159, (b : Int) - 224, by omega, by omega, rfl, rfl, rfl, by first | rfl | (congr 1; omega), by omega, by omega, ⟨rfl, rfl, rfl, rfl, .inl ⟨rfl, by omega⟩⟩, rfl⟩
        case round =>
          obtain ⟨kk, ln, hn, xv, hk1, hk2, rfl, rfl, rfl, rfl, hx0, hx1, HR, rfl⟩ := hrel
          by_cases hlt : kk < 3
          · have t1 : ((kk : Nat) : Int) < 3 := by omega
            have hm := more_calls (.slice (some ⟨g, o, none⟩) s.size cap) s (pos + kk) ln hn wr hv
            rw [Int.natCast_add] at hm
            cases hok : okAt s (pos + kk) ln hn
            · have HE : Hid (refF s pos = (-1, 1)) := by
                rw [Hid, HF.out]
                unfold refN
                rw [okK_no s pos 128 159 kk hk1 (by rw [← HR.out.1, ← HR.out.2.1]; exact hok) 3 hlt]
                rfl
              rw [hok] at hm
              clear hok
              go_wp2_with (go_at_call 47; refine hm.mono ?_; rintro e w' ⟨rfl, hw⟩; obtain rfl : wr = w' := hw.symm)
              go_ret2
              exact ⟨by rw [HE.out]; rfl, rfl⟩
            · have hok2 := okAt_iff.1 hok
              have HO : Hid (okK s pos 128 159 (kk + 1) = true) := by
                rw [Hid, okK_step s pos 128 159 kk hk1, HR.out.2.2.2.1, ← HR.out.1, ← HR.out.2.1, hok]
                rfl
              have HV : Hid (vK s pos ((b : Int) - 224) (kk + 1) = xv * 64 + (byteAt s (pos + kk) : Int) - 128) := by
                rw [Hid, vK_step s pos _ kk hk1, ← HR.out.2.2.1]
              have cz := HC.out (pos + kk) hok2.1
              have hb1 : 128 ≤ byteAt s (pos + kk) ∧ byteAt s (pos + kk) ≤ 191 := by
                have h1 := HR.out.1
                have h2 := HR.out.2.1
                split at h1 <;> split at h2 <;> omega
              have HBd : Hid ((kk = 1 ∧ xv ≤ 31) ∨ (kk = 2 ∧ xv ≤ 2047) ∨ (kk = 3 ∧ xv ≤ 131071) ∨ kk = 4) := HR.out.2.2.2.2
              have i0 : (0 : Int) ≤ ((pos : Nat) : Int) + ((kk : Nat) : Int) := by omega
              have i1 : ((pos : Nat) : Int) + ((kk : Nat) : Int) < ((s.size : Nat) : Int) := by omega
              have hxb : xv ≤ 131071 := by
                have := HBd.out
                omega
              rw [hok] at hm
              generalize byteAt s (pos + kk) = bb at *
              clear hok hok2 HR hx1
              go_wp2_with (go_at_call 47; refine hm.mono ?_; rintro e w' ⟨rfl, hw⟩; obtain rfl : wr = w' := hw.symm)
              refine ⟨⟨kk + 1, 128, 191, xv * 64 + (bb : Int) - 128, by omega, by omega, by go_num, rfl, rfl, rfl, by omega, by omega, ⟨by rw [if_neg (by omega)], by rw [if_neg (by omega)], HV.out.symm, HO.out, ?_⟩, by trivial⟩, by simp [intOf]; omega⟩
              have := HBd.out
              omega
          · obtain rfl : kk = 3 := by omega
            have HE : Hid (refF s pos = (xv, 3)) := by
              rw [Hid, HF.out]
              unfold refN
              rw [HR.out.2.2.2.1, if_pos rfl, ← HR.out.2.2.1]
            go_wp2_with fail
            go_ret2
            exact ⟨by rw [HE.out]; rfl, rfl⟩
      · have hz : True := trivial
        have HF : Hid (refF s pos = refN s pos 3 128 191 ((b : Int) - 224)) := HF0.trans ((if_pos c3).trans (by rw [if_neg e1, if_neg e2]))
        have u1 : (194 : Int) ≤ ((b : Nat) : Int) := by omega
        have u2 : ¬ ((b : Nat) : Int) ≤ 223 := by omega
        have u3 : (224 : Int) ≤ ((b : Nat) : Int) := by omega
        have u4 : ((b : Nat) : Int) ≤ 239 := by omega
        have u7 : (((b : Nat) : Int) == 224) = false := by rw [beq_eq_false_iff_ne]; omega
        have u8 : (((b : Nat) : Int) == 237) = false := by rw [beq_eq_false_iff_ne]; omega
        clear HF0
        go_enter Tryd.func34, Tryd.ntmps34
        go_wp2_with fail
        clear c0
        go_loopw [7, 8, 10, 11] (fun l h x k wr => ∃ (kk ln hn : Nat) (xv : Int), 1 ≤ kk ∧ kk ≤ 3 ∧ k = .int .i64 ((kk : Nat) : Int) ∧ l = .int .u8 ((ln : Nat) : Int) ∧ h = .int .u8 ((hn : Nat) : Int) ∧ x = .int .i64 xv ∧ 0 ≤ xv ∧ xv ≤ 8388607 ∧ Hid (ln = (if kk = 1 then 128 else 128) ∧ hn = (if kk = 1 then 191 else 191) ∧ xv = vK s pos ((b : Int) - 224) kk ∧ okK s pos 128 191 kk = true ∧ ((kk = 1 ∧ xv ≤ 31) ∨ (kk = 2 ∧ xv ≤ 2047) ∨ (kk = 3 ∧ xv ≤ 131071) ∨ kk = 4)) ∧ wr = w) (fun _ _ _ k _ => 3 - (intOf k).toNat)
        case atStart => exact ⟨1, 128, 191, (b : Int) - 224, by omega, by omega, rfl, rfl, rfl, by first | rfl | (congr 1; omega), by omega, by omega, ⟨rfl, rfl, rfl, rfl, .inl ⟨rfl, by omega⟩⟩, rfl⟩
        case round =>
          obtain ⟨kk, ln, hn, xv, hk1, hk2, rfl, rfl, rfl, rfl, hx0, hx1, HR, rfl⟩ := hrel
          by_cases hlt : kk < 3
          · have t1 : ((kk : Nat) : Int) < 3 := by omega
            have hm := more_calls (.slice (some ⟨g, o, none⟩) s.size cap) s (pos + kk) ln hn wr hv
            rw [Int.natCast_add] at hm
            cases hok : okAt s (pos + kk) ln hn
            · have HE : Hid (refF s pos = (-1, 1)) := by
                rw [Hid, HF.out]
                unfold refN
                rw [okK_no s pos 128 191 kk hk1 (by rw [← HR.out.1, ← HR.out.2.1]; exact hok) 3 hlt]
                rfl
              rw [hok] at hm
              clear hok
              go_wp2_with (go_at_call 47; refine hm.mono ?_; rintro e w' ⟨rfl, hw⟩; obtain rfl : wr = w' := hw.symm)
              go_ret2
              exact ⟨by rw [HE.out]; rfl, rfl⟩
            · have hok2 := okAt_iff.1 hok
              have HO : Hid (okK s pos 128 191 (kk + 1) = true) := by
                rw [Hid, okK_step s pos 128 191 kk hk1, HR.out.2.2.2.1, ← HR.out.1, ← HR.out.2.1, hok]
                rfl
              have HV : Hid (vK s pos ((b : Int) - 224) (kk + 1) = xv * 64 + (byteAt s (pos + kk) : Int) - 128) := by
                rw [Hid, vK_step s pos _ kk hk1, ← HR.out.2.2.1]
              have cz := HC.out (pos + kk) hok2.1
              have hb1 : 128 ≤ byteAt s (pos + kk) ∧ byteAt s (pos + kk) ≤ 191 := by
                have h1 := HR.out.1
                have h2 := HR.out.2.1
                split at h1 <;> split at h2 <;> omega
              have HBd : Hid ((kk = 1 ∧ xv ≤ 31) ∨ (kk = 2 ∧ xv ≤ 2047) ∨ (kk = 3 ∧ xv ≤ 131071) ∨ kk = 4) := HR.out.2.2.2.2
              have i0 : (0 : Int) ≤ ((pos : Nat) : Int) + ((kk : Nat) : Int) := by omega
              have i1 : ((pos : Nat) : Int) + ((kk : Nat) : Int) < ((s.size : Nat) : Int) := by omega
              have hxb : xv ≤ 131071 := by
                have := HBd.out
                omega
              rw [hok] at hm
              generalize byteAt s (pos + kk) = bb at *
              clear hok hok2 HR hx1
              go_wp2_with (go_at_call 47; refine hm.mono ?_; rintro e w' ⟨rfl, hw⟩; obtain rfl : wr = w' := hw.symm)
              refine ⟨⟨kk + 1, 128, 191, xv * 64 + (bb : Int) - 128, by omega, by omega, by go_num, rfl, rfl, rfl, by omega, by omega, ⟨by rw [if_neg (by omega)], by rw [if_neg (by omega)], HV.out.symm, HO.out, ?_⟩, by trivial⟩, by simp [intOf]; omega⟩
              have := HBd.out
              omega
          · obtain rfl : kk = 3 := by omega
            have HE : Hid (refF s pos = (xv, 3)) := by
              rw [Hid, HF.out]
              unfold refN
              rw [HR.out.2.2.2.1, if_pos rfl, ← HR.out.2.2.1]
            go_wp2_with fail
            go_ret2
            exact ⟨by rw [HE.out]; rfl, rfl⟩
  have HF1 := HF0.trans (if_neg c3)
  clear HF0
  have HF0 := HF1
  clear HF1
  by_cases c4 : 240 ≤ b ∧ b ≤ 244
  · by_cases e1 : b = 240
    · have hz : True := trivial
      have HF : Hid (refF s pos = refN s pos 4 144 191 ((b : Int) - 240)) := HF0.trans ((if_pos c4).trans (by rw [if_pos e1, if_neg (show ¬ b = 244 by omega)]))
      have u1 : (194 : Int) ≤ ((b : Nat) : Int) := by omega
      have u2 : ¬ ((b : Nat) : Int) ≤ 223 := by omega
      have u3 : (224 : Int) ≤ ((b : Nat) : Int) := by omega
      have u4 : ¬ ((b : Nat) : Int) ≤ 239 := by omega
      have u5 : (240 : Int) ≤ ((b : Nat) : Int) := by omega
      have u6 : ((b : Nat) : Int) ≤ 244 := by omega
      have u7 : (((b : Nat) : Int) == 240) = true := by rw [beq_iff_eq]; omega
      have u8 : (((b : Nat) : Int) == 244) = false := by rw [beq_eq_false_iff_ne]; omega
      clear HF0
      go_enter Tryd.func34, Tryd.ntmps34
      go_wp2_with fail
      clear c0
      go_loopw [7, 8, 10, 11] (fun l h x k wr => ∃ (kk ln hn : Nat) (xv : Int), 1 ≤ kk ∧ kk ≤ 4 ∧ k = .int .i64 ((kk : Nat) : Int) ∧ l = .int .u8 ((ln : Nat) : Int) ∧ h = .int .u8 ((hn : Nat) : Int) ∧ x = .int .i64 xv ∧ 0 ≤ xv ∧ xv ≤ 8388607 ∧ Hid (ln = (if kk = 1 then 144 else 128) ∧ hn = (if kk = 1 then 191 else 191) ∧ xv = vK s pos ((b : Int) - 240) kk ∧ okK s pos 144 191 kk = true ∧ ((kk = 1 ∧ xv ≤ 31) ∨ (kk = 2 ∧ xv ≤ 2047) ∨ (kk = 3 ∧ xv ≤ 131071) ∨ kk = 4)) ∧ wr = w) (fun _ _ _ k _ => 4 - (intOf k).toNat)
      case atStart => exact ⟨1, 144, 191, (b : Int) - 240, by omega, by omega, rfl, rfl, rfl, by first | rfl | (congr 1; omega), by omega, by omega, ⟨rfl, rfl, rfl, rfl, .inl ⟨rfl, by omega⟩⟩, rfl⟩
      case round =>
        obtain ⟨kk, ln, hn, xv, hk1, hk2, rfl, rfl, rfl, rfl, hx0, hx1, HR, rfl⟩ := hrel
        by_cases hlt : kk < 4
        · have t1 : ((kk : Nat) : Int) < 4 := by omega
          have hm := more_calls (.slice (some ⟨g, o, none⟩) s.size cap) s (pos + kk) ln hn wr hv
          rw [Int.natCast_add] at hm
          cases hok : okAt s (pos + kk) ln hn
          · have HE : Hid (refF s pos = (-1, 1)) := by
              rw [Hid, HF.out]
              unfold refN
              rw [okK_no s pos 144 191 kk hk1 (by rw [← HR.out.1, ← HR.out.2.1]; exact hok) 4 hlt]
              rfl
            rw [hok] at hm
            clear hok
            go_wp2_with (go_at_call 47; refine hm.mono ?_; rintro e w' ⟨rfl, hw⟩; obtain rfl : wr = w' := hw.symm)
            go_ret2
            exact ⟨by rw [HE.out]; rfl, rfl⟩
          · have hok2 := okAt_iff.1 hok
            have HO : Hid (okK s pos 144 191 (kk + 1) = true) := by
              rw [Hid, okK_step s pos 144 191 kk hk1, HR.out.2.2.2.1, ← HR.out.1, ← HR.out.2.1, hok]
              rfl
            have HV : Hid (vK s pos ((b : Int) - 240) (kk + 1) = xv * 64 + (byteAt s (pos + kk) : Int) - 128) := by
              rw [Hid, vK_step s pos _ kk hk1, ← HR.out.2.2.1]
            have cz := HC.out (pos + kk) hok2.1
            have hb1 : 128 ≤ byteAt s (pos + kk) ∧ byteAt s (pos + kk) ≤ 191 := by
              have h1 := HR.out.1
              have h2 := HR.out.2.1
              split at h1 <;> split at h2 <;> omega
            have HBd : Hid ((kk = 1 ∧ xv ≤ 31) ∨ (kk = 2 ∧ xv ≤ 2047) ∨ (kk = 3 ∧ xv ≤ 131071) ∨ kk = 4) := HR.out.2.2.2.2
            have i0 : (0 : Int) ≤ ((pos : Nat) : Int) + ((kk : Nat) : Int) := by omega
            have i1 : ((pos : Nat) : Int) + ((kk : Nat) : Int) < ((s.size : Nat) : Int) := by omega
            have hxb : xv ≤ 131071 := by
              have := HBd.out
              omega
            rw [hok] at hm
            generalize byteAt s (pos + kk) = bb at *
            clear hok hok2 HR hx1
            go_wp2_with (go_at_call 47; refine hm.mono ?_; rintro e w' ⟨rfl, hw⟩; obtain rfl : wr = w' := hw.symm)
            refine ⟨⟨kk + 1, 128, 191, xv * 64 + (bb : Int) - 128, by omega, by omega, by go_num, rfl, rfl, rfl, by omega, by omega, ⟨by rw [if_neg (by omega)], by rw [if_neg (by omega)], HV.out.symm, HO.out, ?_⟩, by trivial⟩, by simp [intOf]; omega⟩
            have := HBd.out
            omega
        · obtain rfl : kk = 4 := by omega
          have HE : Hid (refF s pos = (xv, 4)) := by
            rw [Hid, HF.out]
            unfold refN
            rw [HR.out.2.2.2.1, if_pos rfl, ← HR.out.2.2.1]
          go_wp2_with fail
          go_ret2
          exact ⟨by rw [HE.out]; rfl, rfl⟩
    · by_cases e2 : b = 244
      · have hz : True := trivial
        have HF : Hid (refF s pos = refN s pos 4 128 143 ((b : Int) - 240)) := HF0.trans ((if_pos c4).trans (by rw [if_neg e1, if_pos e2]))
        have u1 : (194 : Int) ≤ ((b : Nat) : Int) := by omega
        have u2 : ¬ ((b : Nat) : Int) ≤ 223 := by omega
        have u3 : (224 : Int) ≤ ((b : Nat) : Int) := by omega
        have u4 : ¬ ((b : Nat) : Int) ≤ 239 := by omega
        have u5 : (240 : Int) ≤ ((b : Nat) : Int) := by omega
        have u6 : ((b : Nat) : Int) ≤ 244 := by omega
        have u7 : (((b : Nat) : Int) == 240) = false := by rw [beq_eq_false_iff_ne]; omega
        have u8 : (((b : Nat) : Int) == 244) = true := by rw [beq_iff_eq]; omega
        clear HF0
        go_enter Tryd.func34, Tryd.ntmps34
        go_wp2_with fail
        clear c0
        go_loopw [7, 8, 10, 11] (fun l h x k wr => ∃ (kk ln hn : Nat) (xv : Int), 1 ≤ kk ∧ kk ≤ 4 ∧ k = .int .i64 ((kk : Nat) : Int) ∧ l = .int .u8 ((ln : Nat) : Int) ∧ h = .int .u8 ((hn : Nat) : Int) ∧ x = .int .i64 xv ∧ 0 ≤ xv ∧ xv ≤ 8388607 ∧ Hid (ln = (if kk = 1 then 128 else 128) ∧ hn = (if kk = 1 then 143 else 191) ∧ xv = vK s pos ((b : Int) - 240) kk ∧ okK s pos 128 143 kk = true ∧ ((kk = 1 ∧ xv ≤ 31) ∨ (kk = 2 ∧ xv ≤ 2047) ∨ (kk = 3 ∧ xv ≤ 131071) ∨ kk = 4)) ∧ wr = w) (fun _ _ _ k _ => 4 - (intOf k).toNat)
        case atStart => exact ⟨1, 128, 143, (b : Int) - 240, by omega, by omega, rfl, rfl, rfl, by first | rfl | (congr 1; omega), by omega, by omega, ⟨rfl, rfl, rfl, rfl, .inl ⟨rfl, by omega⟩⟩, rfl⟩
        case round =>
          obtain ⟨kk, ln, hn, xv, hk1, hk2, rfl, rfl, rfl, rfl, hx0, hx1, HR, rfl⟩ := hrel
          by_cases hlt : kk < 4
          · have t1 : ((kk : Nat) : Int) < 4 := by omega
            have hm := more_calls (.slice (some ⟨g, o, none⟩) s.size cap) s (pos + kk) ln hn wr hv
            rw [Int.natCast_add] at hm
            cases hok : okAt s (pos + kk) ln hn
            · have HE : Hid (refF s pos = (-1, 1)) := by
                rw [Hid, HF.out]
                unfold refN
                rw [okK_no s pos 128 143 kk hk1 (by rw [← HR.out.1, ← HR.out.2.1]; exact hok) 4 hlt]
                rfl
              rw [hok] at hm
              clear hok
              go_wp2_with (go_at_call 47; refine hm.mono ?_; rintro e w' ⟨rfl, hw⟩; obtain rfl : wr = w' := hw.symm)
              go_ret2
              exact ⟨by rw [HE.out]; rfl, rfl⟩
            · have hok2 := okAt_iff.1 hok
              have HO : Hid (okK s pos 128 143 (kk + 1) = true) := by
                rw [Hid, okK_step s pos 128 143 kk hk1, HR.out.2.2.2.1, ← HR.out.1, ← HR.out.2.1, hok]
                rfl
              have HV : Hid (vK s pos ((b : Int) - 240) (kk + 1) = xv * 64 + (byteAt s (pos + kk) : Int) - 128) := by
                rw [Hid, vK_step s pos _ kk hk1, ← HR.out.2.2.1]
              have cz := HC.out (pos + kk) hok2.1
              have hb1 : 128 ≤ byteAt s (pos + kk) ∧ byteAt s (pos + kk) ≤ 191 := by
                have h1 := HR.out.1
                have h2 := HR.out.2.1
                split at h1 <;> split at h2 <;> omega
              have HBd : Hid ((kk = 1 ∧ xv ≤ 31) ∨ (kk = 2 ∧ xv ≤ 2047) ∨ (kk = 3 ∧ xv ≤ 131071) ∨ kk = 4) := HR.out.2.2.2.2
              have i0 : (0 : Int) ≤ ((pos : Nat) : Int) + ((kk : Nat) : Int) := by omega
              have i1 : ((pos : Nat) : Int) + ((kk : Nat) : Int) < ((s.size : Nat) : Int) := by omega
              have hxb : xv ≤ 131071 := by
                have := HBd.out
                omega
              rw [hok] at hm
              generalize byteAt s (pos + kk) = bb at *
              clear hok hok2 HR hx1
              go_wp2_with (go_at_call 47; refine hm.mono ?_; rintro e w' ⟨rfl, hw⟩; obtain rfl : wr = w' := hw.symm)
              refine ⟨⟨kk + 1, 128, 191, xv * 64 + (bb : Int) - 128, by omega, by omega, by go_num, rfl, rfl, rfl, by omega, by omega, ⟨by rw [if_neg (by omega)], by rw [if_neg (by omega)], HV.out.symm, HO.out, ?_⟩, by trivial⟩, by simp [intOf]; omega⟩
              have := HBd.out
              omega
          · obtain rfl : kk = 4 := by omega
            have HE : Hid (refF s pos = (xv, 4)) := by
              rw [Hid, HF.out]
              unfold refN
              rw [HR.out.2.2.2.1, if_pos rfl, ← HR.out.2.2.1]
            go_wp2_with fail
            go_ret2
            exact ⟨by rw [HE.out]; rfl, rfl⟩
      · have hz : True := trivial
        have HF : Hid (refF s pos = refN s pos 4 128 191 ((b : Int) - 240)) := HF0.trans ((if_pos c4).trans (by rw [if_neg e1, if_neg e2]))
        have u1 : (194 : Int) ≤ ((b : Nat) : Int) := by omega
        have u2 : ¬ ((b : Nat) : Int) ≤ 223 := by omega
        have u3 : (224 : Int) ≤ ((b : Nat) : Int) := by omega
        have u4 : ¬ ((b : Nat) : Int) ≤ 239 := by omega
        have u5 : (240 : Int) ≤ ((b : Nat) : Int) := by omega
        have u6 : ((b : Nat) : Int) ≤ 244 := by omega
        have u7 : (((b : Nat) : Int) == 240) = false := by rw [beq_eq_false_iff_ne]; omega
        have u8 : (((b : Nat) : Int) == 244) = false := by rw [beq_eq_false_iff_ne]; omega
        clear HF0
        go_enter Tryd.func34, Tryd.ntmps34
        go_wp2_with fail
        clear c0
        go_loopw [7, 8, 10, 11] (fun l h x k wr => ∃ (kk ln hn : Nat) (xv : Int), 1 ≤ kk ∧ kk ≤ 4 ∧ k = .int .i64 ((kk : Nat) : Int) ∧ l = .int .u8 ((ln : Nat) : Int) ∧ h = .int .u8 ((hn : Nat) : Int) ∧ x = .int .i64 xv ∧ 0 ≤ xv ∧ xv ≤ 8388607 ∧ Hid (ln = (if kk = 1 then 128 else 128) ∧ hn = (if kk = 1 then 191 else 191) ∧ xv = vK s pos ((b : Int) - 240) kk ∧ okK s pos 128 191 kk = true ∧ ((kk = 1 ∧ xv ≤ 31) ∨ (kk = 2 ∧ xv ≤ 2047) ∨ (kk = 3 ∧ xv ≤ 131071) ∨ kk = 4)) ∧ wr = w) (fun _ _ _ k _ => 4 - (intOf k).toNat)
        case atStart => exact ⟨1, 128, 191, (b : Int) - 240, by omega, by omega, rfl, rfl, rfl, by first | rfl | (congr 1; omega), by omega, by omega, ⟨rfl, rfl, rfl, rfl, .inl ⟨rfl, by omega⟩⟩, rfl⟩
        case round =>
          obtain ⟨kk, ln, hn, xv, hk1, hk2, rfl, rfl, rfl, rfl, hx0, hx1, HR, rfl⟩ := hrel
          by_cases hlt : kk < 4
          · have t1 : ((kk : Nat) : Int) < 4 := by omega
            have hm := more_calls (.slice (some ⟨g, o, none⟩) s.size cap) s (pos + kk) ln hn wr hv
            rw [Int.natCast_add] at hm
            cases hok : okAt s (pos + kk) ln hn
            · have HE : Hid (refF s pos = (-1, 1)) := by
                rw [Hid, HF.out]
                unfold refN
                rw [okK_no s pos 128 191 kk hk1 (by rw [← HR.out.1, ← HR.out.2.1]; exact hok) 4 hlt]
                rfl
              rw [hok] at hm
              clear hok
              go_wp2_with (go_at_call 47; refine hm.mono ?_; rintro e w' ⟨rfl, hw⟩; obtain rfl : wr = w' := hw.symm)
              go_ret2
              exact ⟨by rw [HE.out]; rfl, rfl⟩
            · have hok2 := okAt_iff.1 hok
              have HO : Hid (okK s pos 128 191 (kk + 1) = true) := by
                rw [Hid, okK_step s pos 128 191 kk hk1, HR.out.2.2.2.1, ← HR.out.1, ← HR.out.2.1, hok]
                rfl
              have HV : Hid (vK s pos ((b : Int) - 240) (kk + 1) = xv * 64 + (byteAt s (pos + kk) : Int) - 128) := by
                rw [Hid, vK_step s pos _ kk hk1, ← HR.out.2.2.1]
              have cz := HC.out (pos + kk) hok2.1
              have hb1 : 128 ≤ byteAt s (pos + kk) ∧ byteAt s (pos + kk) ≤ 191 := by
                have h1 := HR.out.1
                have h2 := HR.out.2.1
                split at h1 <;> split at h2 <;> omega
              have HBd : Hid ((kk = 1 ∧ xv ≤ 31) ∨ (kk = 2 ∧ xv ≤ 2047) ∨ (kk = 3 ∧ xv ≤ 131071) ∨ kk = 4) := HR.out.2.2.2.2
              have i0 : (0 : Int) ≤ ((pos : Nat) : Int) + ((kk : Nat) : Int) := by omega
              have i1 : ((pos : Nat) : Int) + ((kk : Nat) : Int) < ((s.size : Nat) : Int) := by omega
              have hxb : xv ≤ 131071 := by
                have := HBd.out
                omega
              rw [hok] at hm
              generalize byteAt s (pos + kk) = bb at *
              clear hok hok2 HR hx1
              go_wp2_with (go_at_call 47; refine hm.mono ?_; rintro e w' ⟨rfl, hw⟩; obtain rfl : wr = w' := hw.symm)
              refine ⟨⟨kk + 1, 128, 191, xv * 64 + (bb : Int) - 128, by omega, by omega, by go_num, rfl, rfl, rfl, by omega, by omega, ⟨by rw [if_neg (by omega)], by rw [if_neg (by omega)], HV.out.symm, HO.out, ?_⟩, by trivial⟩, by simp [intOf]; omega⟩
              have := HBd.out
              omega
          · obtain rfl : kk = 4 := by omega
            have HE : Hid (refF s pos = (xv, 4)) := by
              rw [Hid, HF.out]
              unfold refN
              rw [HR.out.2.2.2.1, if_pos rfl, ← HR.out.2.2.1]
            go_wp2_with fail
            go_ret2
            exact ⟨by rw [HE.out]; rfl, rfl⟩
  have HF : Hid (refF s pos = (-1, 1)) := HF0.trans (if_neg c4)
  clear HF0
  by_cases d1 : b < 194
  · have u1 : ¬ (194 : Int) ≤ ((b : Nat) : Int) := by omega
    have u3 : ¬ (224 : Int) ≤ ((b : Nat) : Int) := by omega
    have u5 : ¬ (240 : Int) ≤ ((b : Nat) : Int) := by omega
    go_enter Tryd.func34, Tryd.ntmps34
    go_wp2_with fail
    go_ret2
    exact ⟨by rw [HF.out]; rfl, rfl⟩
  · have u1 : (194 : Int) ≤ ((b : Nat) : Int) := by omega
    have u2 : ¬ ((b : Nat) : Int) ≤ 223 := by omega
    have u3 : (224 : Int) ≤ ((b : Nat) : Int) := by omega
    have u4 : ¬ ((b : Nat) : Int) ≤ 239 := by omega
    have u5 : (240 : Int) ≤ ((b : Nat) : Int) := by omega
    have u6 : ¬ ((b : Nat) : Int) ≤ 244 := by omega
    go_enter Tryd.func34, Tryd.ntmps34
    go_wp2_with fail
    go_ret2
    exact ⟨by rw [HF.out]; rfl, rfl⟩
end Go.Proofs.YtkgppagpjbkhmaaDoor
