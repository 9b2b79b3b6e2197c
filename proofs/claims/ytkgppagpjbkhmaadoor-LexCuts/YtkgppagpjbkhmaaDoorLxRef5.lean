/- The contract of the reference's number, walked. -/
import Derived.Test.YtkgppagpjbkhmaaDoorLxRef4
namespace Go.Proofs.YtkgppagpjbkhmaaDoor
open Go.RowKit Go.Shelf

theorem wrap_two (a : Nat) (ha : a ≤ 1000000) : wrap64 (((a : Nat) : Int) + 2) = ((a : Nat) : Int) + 2 := by
  unfold wrap64
  omega
theorem wrap_1 (a : Nat) (ha : a ≤ 1000000) : wrap64 (((a : Nat) : Int) + 1) = ((a : Nat) : Int) + 1 := by
  unfold wrap64
  omega
theorem wrapU_dig (d : Nat) (h : d ≤ 16) : IntKind.u64.wrap ((d : Nat) : Int) = ((d : Nat) : Int) := by
  simp [IntKind.wrap, IntKind.signed, IntKind.bits]
  omega
theorem wrapU_sub (d : Nat) (h : d ≤ 16) : IntKind.u64.wrap (18446744073709551615 - ((d : Nat) : Int)) = 18446744073709551615 - ((d : Nat) : Int) := by
  simp [IntKind.wrap, IntKind.signed, IntKind.bits]
  omega
theorem great_eq (v d base : Nat) (h : d ≤ 18446744073709551615) : decide ((18446744073709551615 - (d : Int)) / (base : Int) < (v : Int)) = !(true && decide (v ≤ (18446744073709551615 - d) / base)) := by
  rw [← fits_dig v d base h, Bool.true_and, ← decide_not, decide_eq_decide]
  omega
set_option maxRecDepth 100000 in
set_option maxHeartbeats 8000000 in
theorem rNumber_calls (base gr capr : Nat) (s : ByteArray) (w : World) (hR : RTab w base gr capr s) (hs : s.size ≤ 65536) (j p l k : Nat) (hB : Bnd s j p l k) (hp : p < s.size) (hd : digitB (byteAt s p) = true) :
    Calls Tryd.prog 26 #[.slice (some ⟨gr, 0, none⟩) (runesA s).length capr, .int .i64 ((j : Nat) : Int)] w fun e w' => NumAns s j p l k (numR (dropB s p) l k) e ∧ Below w.heap.size w w' := by
  have hfew := runes_few s hs
  have hdg := digitB_iff.1 hd
  have hjl := hB.lt
  have hB1 : Bnd s (j + 1) (p + 1) l (k + 1) := hB.adv (m := 1) ⟨hp, by rw [dec_ascii' s p (by omega)]; show ¬ byteAt s p = 10; omega, by rw [dec_ascii' s p (by omega)]; rfl⟩
  have hjl1 := hB1.lt
  have hW0 : Below w.heap.size w (w.alloc (.cells #[.int .i64 0, .int .i64 0, .int .i64 0] 38)) := (Below.refl _ _).alloc (Nat.le_refl _) _
  have hF0 : Blk (w.alloc (.cells #[.int .i64 0, .int .i64 0, .int .i64 0] 38)) w.heap.size 38 (fltC noFlt) := Blk.new w _ _
  have hR0 := hR.below hW0
  have HZ : Hid ((w.alloc (.cells #[.int .i64 0, .int .i64 0, .int .i64 0] 38)).heap.size = w.heap.size + 1) := World.size_alloc _ _
  have a0 : (0 : Int) ≤ ((j : Nat) : Int) := by omega
  have a1 : ((j : Nat) : Int) < (((runesA s).length : Nat) : Int) := by omega
  go_enter Tryd.func26, Tryd.ntmps26
  go_upto_region 3 with fail
  generalize (w.alloc (.cells #[.int .i64 0, .int .i64 0, .int .i64 0] 38)) = W0 at *
  go_cut [45] (fun c wx => c = .bool (hexB (dropB s p)) ∧ wx = W0)
  case first =>
    have hx := rune_x hB hp
    have hxi := hex_iff (s := s) hp
    have h48 := runeI_low s p 48 (by decide)
    obtain ⟨q0, q1, q2, q3, q4⟩ := hR0.at hx
    simp only [Nat.add_zero] at q0 q1 q2 q3 q4
    have b0 : (0 : Int) ≤ ((j : Nat) : Int) + 1 := by omega
    have b1 : ((j : Nat) : Int) + 1 < (((runesA s).length : Nat) : Int) := by omega
    have b2 : (((j : Nat) : Int) + 1).toNat = j + 1 := by omega
    have b3 := wrap_1 j (by omega)
    by_cases e48 : byteAt s p = 48
    · have r48 := h48.2 e48
      rw [r48] at q0
      by_cases hp1 : p + 1 < s.size
      · have hx1 := rune_x hB1 hp1
        obtain ⟨z0, z1, z2, z3, z4⟩ := hR0.at hx1
        simp only [Nat.add_zero] at z0 z1 z2 z3 z4
        have hw := dec_pos s (p + 1)
        have t1 : (0 : Int) < (((Utf8.decode s (p + 1)).2 : Nat) : Int) := by omega
        by_cases e120 : byteAt s (p + 1) = 120
        · have r1 := (runeI_low s (p + 1) 120 (by decide)).2 e120
          rw [r1] at z0
          have HX : Hid (hexB (dropB s p) = true) := hxi.2 ⟨e48, hp1, Or.inl e120⟩
          generalize (Utf8.decode s (p + 1)).2 = n1 at *
          clear hxi h48 hx hx1 e120 e48 r48 r1
          go_wp2_with fail
          go_meet
          exact ⟨by rw [HX.out], rfl⟩
        · have r1 : ¬ runeI s (p + 1) = ((120 : Nat) : Int) := fun e => e120 ((runeI_low s (p + 1) 120 (by decide)).1 e)
          have u1 : (runeI s (p + 1) == (120 : Int)) = false := by rw [beq_eq_false_iff_ne]; exact r1
          have HX : Hid (hexB (dropB s p) = (runeI s (p + 1) == (88 : Int))) := by
            rw [Hid, Bool.eq_iff_iff, hxi, beq_iff_eq]
            have := runeI_low s (p + 1) 88 (by decide)
            constructor
            · rintro ⟨_, _, h3⟩
              exact this.2 (by omega)
            · intro e
              exact ⟨e48, hp1, Or.inr (this.1 e)⟩
          generalize (Utf8.decode s (p + 1)).2 = n1 at *
          generalize runeI s (p + 1) = r1' at *
          clear hxi h48 hx hx1 e120 e48 r48 r1
          go_wp2_with fail
          go_meet
          exact ⟨by rw [HX.out], rfl⟩
      · have hx1 := rune_end hB1 hp1
        obtain ⟨z0, z1, z2, z3, z4⟩ := hR0.at hx1
        simp only [Nat.add_zero] at z0 z1 z2 z3 z4
        have HX : Hid (hexB (dropB s p) = false) := by
          rw [Hid, Bool.eq_false_iff]
          exact fun e => hp1 (hxi.1 e).2.1
        clear hxi h48 hx hx1 e48 r48
        go_wp2_with fail
        go_meet
        exact ⟨by rw [HX.out], rfl⟩
    · have r48 : (runeI s p == (48 : Int)) = false := by rw [beq_eq_false_iff_ne]; exact fun e => e48 (h48.1 e)
      have HX : Hid (hexB (dropB s p) = false) := by
        rw [Hid, Bool.eq_false_iff]
        exact fun e => e48 (hxi.1 e).1
      generalize runeI s p = r0 at *
      clear hxi h48 hx e48
      go_wp2_with fail
      go_meet
      exact ⟨by rw [HX.out], rfl⟩
  case rest =>
    obtain ⟨rfl, rfl⟩ := hcut
    cases hh : hexB (dropB s p)
    · have HN : Hid (numR (dropB s p) l k = numK (dropB s p) l k 0 10) := by show _ = _; unfold numR; rw [hh, if_neg Bool.false_ne_true]
      have hfirst : p + 0 < s.size ∧ digitV (Utf8.decode s (p + 0)).1 < 10 := by
        rw [Nat.add_zero, dec_ascii' s p (by omega)]
        refine ⟨hp, ?_⟩
        unfold digitV
        rw [if_pos hdg]
        omega
      have HD0 := hid_of (DigW.start (base := 10) hB)
      clear hh
      go_wp2_with fail
      go_loopw [1, 9, 10] (fun vk vv vg wr => ∃ (n v jn : Nat) (ok : Bool), vk = .int .i64 ((jn : Nat) : Int) ∧ Hid (jn = j + n) ∧ vv = .int .u64 ((v : Nat) : Int) ∧ vg = .bool (!ok) ∧ Hid (DigW s j p l k 10 n v ok) ∧ Hid (Below wc.heap.size wc wr)) (fun vk _ _ _ => (runesA s).length - (intOf vk).toNat)
      case atStart => exact ⟨0, 0, j, true, by first | rfl | go_num, rfl, rfl, rfl, HD0.out, Below.refl _ _⟩
      case round =>
        obtain ⟨n, v, jn, ok, rfl, HJn, rfl, rfl, HD, HW⟩ := hrel
        obtain ⟨pn, kn, hpn, hkn, hBn⟩ : ∃ pn kn, pn = p + n ∧ kn = k + n ∧ Bnd s jn pn l kn := ⟨_, _, rfl, rfl, by rw [HJn.out]; exact HD.out.1⟩
        have hjn := hBn.lt
        obtain ⟨r, m, d, hx, h6, h16, hlt16, hdv, hlet, hdig⟩ := rune_six hBn
        have hc := fun W => rSix_calls ⟨r, pn, m, l, kn⟩ W
        rw [h6] at hc
        obtain ⟨z0, z1, z2, z3, z4⟩ := (hR0.below HW.out).at hx
        simp only [Nat.add_zero] at z0 z1 z2 z3 z4
        unfold rnC at hc
        simp only [] at hc
        have n0 : (0 : Int) ≤ ((jn : Nat) : Int) := by omega
        have n1 : ((jn : Nat) : Int) < (((runesA s).length : Nat) : Int) := by omega
        have HX := hid_of hx
        have wD := wrapU_dig d h16
        have wS := wrapU_sub d h16
        clear hx h6
        by_cases hlt : d < 10
        · have hpl := hlt16 (by omega)
          have HM := hid_of (HD.out.more (d := d) (by omega) (by decide) (by rw [← hpn]; exact hdv hpl) hlt)
          have HJ2 : Hid (jn + 1 = j + (n + 1)) := by rw [HJn.out]; rfl
          have t1 : ((d : Nat) : Int) < 10 := by omega
          clear hlt16 hdv hlet hdig hfirst hpn hkn
          go_wp2_with fail
          refine (hc _).mono ?_
          rintro e w4 ⟨rfl, hb4⟩
          have hW4 := below_step HW.out HW.out.size hb4
          obtain ⟨z0, z1, z2, z3, z4⟩ := (hR0.below hW4).at HX.out
          simp only [Nat.add_zero] at z0 z1 z2 z3 z4
          go_wp2_with fail
          refine (hc _).mono ?_
          rintro e w5 ⟨rfl, hb5⟩
          have hW5 := below_step hW4 hW4.size hb5
          clear z0 z1 z2 z3 z4
          cases ok
          · go_wp2_with fail
            exact ⟨⟨n + 1, _, jn + 1, _, by go_num, HJ2, by rw [← wrap_dig v 10 d]; rfl, by rfl, HM.out, hW5⟩, by simp [intOf]; omega⟩
          · go_wp2_with fail
            exact ⟨⟨n + 1, _, jn + 1, _, by go_num, HJ2, by rw [← wrap_dig v 10 d]; rfl, congrArg Value.bool (great_eq v d 10 (by omega)), HM.out, hW5⟩, by simp [intOf]; omega⟩
        · have hn0 : n ≠ 0 := by
            intro e
            subst e
            rw [← hpn] at hfirst
            rw [hdv hfirst.1] at hfirst
            omega
          have hdA := HD.out.stop (fun h => by rw [← hpn] at h ⊢; rw [hdv h]; omega)
          have hpns := hBn.1
          have t1 : ¬ ((d : Nat) : Int) < 10 := by omega
          have hnk := numK_of (s := s) (p := p) (l := l) (k := k) (a := 0) (by rw [Nat.add_zero]; exact hdA) hn0 (by omega)
          rw [Nat.add_zero, Nat.add_zero, ← hpn] at hnk
          have HNK := hid_of (HN.out.trans hnk)
          have hdg10 := hdig (by omega)
          have hcl := fun W => rLetter_calls ⟨r, pn, m, l, kn⟩ W
          have hcd := fun W => rDigit_calls ⟨r, pn, m, l, kn⟩ W
          have hch := fun W => rHere_calls ⟨r, pn, m, l, kn⟩ W
          rw [hlet] at hcl
          rw [hdg10] at hcd
          unfold rnC at hcl hcd hch
          simp only [] at hcl hcd hch
          have hxj := rune_x hB hp
          have hchj := fun W => rHere_calls ⟨runeI s p, p, (Utf8.decode s p).2, l, k⟩ W
          unfold rnC at hchj
          simp only [] at hchj
          have HXJ := hid_of hxj
          have HB := hid_of hBn
          have HKN : Hid (kn = k + n) := hkn
          clear hlt16 hdv hlet hdig hfirst hpn hkn hnk hdA hlt hdg10 hxj hdg
          go_wp2_with fail
          refine (hc _).mono ?_
          rintro e w4 ⟨rfl, hb4⟩
          have hW4 := below_step HW.out HW.out.size hb4
          clear z0 z1 z2 z3 z4 hc
          cases ok
          · rw [if_pos rfl] at HNK
            obtain ⟨z0, z1, z2, z3, z4⟩ := (hR0.below hW4).at HXJ.out
            simp only [Nat.add_zero] at z0 z1 z2 z3 z4
            clear hcl hcd hch
            generalize runeI s p = r0 at *
            generalize (Utf8.decode s p).2 = m0 at *
            go_wp2_with fail
            refine (hchj _).mono ?_
            rintro e w5 ⟨rfl, hb5⟩
            have hW5 := below_step hW4 hW4.size hb5
            have hF5 := Blk.of_below hF0 hW5
            have hWW := below_step hW0 hW0.size hW5
            go_wp2_with (refine wpList_store_row rfl 38 _ _ rfl w.heap.size (fltC ⟨20, l, k⟩) rfl rfl 38 _ hF5 (by kernel_rfl) rfl (all_flt _) ?_)
            exact bodyPost_ret (ret_num _ _ rfl rfl rfl ⟨20, l, k⟩ (hF5.row _)) rfl ⟨by rw [HNK.out]; exact Or.inl ⟨by show ¬ (20 : Nat) = 0; decide, jn, rfl⟩, Below.row hWW (Nat.le_refl _) _⟩
          · rw [if_neg (by decide)] at HNK
            obtain ⟨z0, z1, z2, z3, z4⟩ := (hR0.below hW4).at HX.out
            simp only [Nat.add_zero] at z0 z1 z2 z3 z4
            clear hchj
            cases hL : letterB (Lib.decodeGo (dropB s pn)).1
            · rw [hL] at hcl
              rw [hL, if_neg Bool.false_ne_true] at HNK
              clear hL hch
              go_wp2_with fail
              refine (hcl _).mono ?_
              rintro e w5 ⟨rfl, hb5⟩
              have hW5 := below_step hW4 hW4.size hb5
              obtain ⟨y0, y1, y2, y3, y4⟩ := (hR0.below hW5).at HX.out
              simp only [Nat.add_zero] at y0 y1 y2 y3 y4
              clear z0 z1 z2 z3 z4
              go_wp2_with fail
              refine (hcd _).mono ?_
              rintro e w6 ⟨rfl, hb6⟩
              have hW6 := below_step hW5 hW5.size hb6
              have hF6 := Blk.of_below hF0 hW6
              have hWW := below_step hW0 hW0.size hW6
              go_wp2_with (refine wpList_store_row rfl 38 _ _ rfl w.heap.size (fltC noFlt) rfl rfl 38 _ hF6 (by kernel_rfl) rfl (all_flt _) ?_)
              exact bodyPost_ret (ret_num _ _ rfl rfl rfl noFlt (hF6.row _)) rfl ⟨by rw [HNK.out]; exact Or.inr ⟨0 + n, v, rfl, by omega, by rw [Nat.zero_add]; exact HD.out.1, by rw [Nat.zero_add, HJn.out]; rfl⟩, Below.row hWW (Nat.le_refl _) _⟩
            · rw [hL] at hcl
              rw [hL, if_pos rfl] at HNK
              clear hL hcd
              go_wp2_with fail
              refine (hcl _).mono ?_
              rintro e w5 ⟨rfl, hb5⟩
              have hW5 := below_step hW4 hW4.size hb5
              obtain ⟨y0, y1, y2, y3, y4⟩ := (hR0.below hW5).at HX.out
              simp only [Nat.add_zero] at y0 y1 y2 y3 y4
              clear z0 z1 z2 z3 z4
              go_wp2_with fail
              refine (hch _).mono ?_
              rintro e w6 ⟨rfl, hb6⟩
              have hW6 := below_step hW5 hW5.size hb6
              have hF6 := Blk.of_below hF0 hW6
              have hWW := below_step hW0 hW0.size hW6
              go_wp2_with (refine wpList_store_row rfl 38 _ _ rfl w.heap.size (fltC ⟨20, l, kn⟩) rfl rfl 38 _ hF6 (by kernel_rfl) rfl (all_flt _) ?_)
              exact bodyPost_ret (ret_num _ _ rfl rfl rfl ⟨20, l, kn⟩ (hF6.row _)) rfl ⟨by rw [HNK.out, HKN.out]; exact Or.inl ⟨by show ¬ (20 : Nat) = 0; decide, jn, rfl⟩, Below.row hWW (Nat.le_refl _) _⟩
    · have HN : Hid (numR (dropB s p) l k = numK (dropB s p) l k 2 16) := by show _ = _; unfold numR; rw [hh, if_pos rfl]
      have hxi := (hex_iff (s := s) hp).1 hh
      have hB2 : Bnd s (j + 2) (p + 2) l (k + 2) := hB1.adv (m := 1) ⟨hxi.2.1, by rw [dec_ascii' s (p + 1) (by omega)]; show ¬ byteAt s (p + 1) = 10; omega, by rw [dec_ascii' s (p + 1) (by omega)]; rfl⟩
      have hjl2 := hB2.lt
      have HD0 := hid_of (DigW.start (base := 16) hB2)
      obtain ⟨K, hK⟩ : ∃ K, K = k + 2 := ⟨_, rfl⟩
      obtain ⟨P, hP⟩ : ∃ P, P = p + 2 := ⟨_, rfl⟩
      rw [← hK, ← hP] at HD0 hB2
      have HK := hid_of hK
      have HP := hid_of hP
      obtain ⟨r2, m2, d2, hx2, h62, h162, hlt2, hdv2, _, _⟩ := rune_six hB2
      have hc2 := fun W => rSix_calls ⟨r2, P, m2, l, K⟩ W
      rw [h62] at hc2
      obtain ⟨z0, z1, z2, z3, z4⟩ := hR0.at hx2
      simp only [Nat.add_zero] at z0 z1 z2 z3 z4
      unfold rnC at hc2
      simp only [] at hc2
      have c0 : (0 : Int) ≤ ((j : Nat) : Int) + 2 := by omega
      have c1 : ((j : Nat) : Int) + 2 < (((runesA s).length : Nat) : Int) := by omega
      have c2 : (((j : Nat) : Int) + 2).toNat = j + 2 := by omega
      have HX2 := hid_of hx2
      clear hh hK hP hxi hx2
      by_cases hd16 : d2 = 16
      · have HE : Hid (numR (dropB s p) l k = ⟨noTok, ⟨20, l, K⟩, dropB s p, k⟩) := by
          have hdg0 : digA (dropB s P) 16 = (0, 0, true) := HD0.out.stop (fun h => by rw [Nat.add_zero] at h ⊢; rw [hdv2 h]; omega)
          rw [Hid, HN.out]
          unfold numK
          rw [drop_drop, ← HP.out, hdg0]
          unfold numG
          rw [if_pos rfl, ← HK.out]
        have u1 : (((d2 : Nat) : Int) == 16) = true := by simp [hd16]
        clear hd16 hdv2 hlt2 h62 HD0
        go_wp2_with fail
        refine (hc2 _).mono ?_
        rintro e w2 ⟨rfl, hb2⟩
        obtain ⟨z0, z1, z2, z3, z4⟩ := (hR0.below hb2).at HX2.out
        simp only [Nat.add_zero] at z0 z1 z2 z3 z4
        have hch := fun W => rHere_calls ⟨r2, P, m2, l, K⟩ W
        unfold rnC at hch
        simp only [] at hch
        go_wp2_with fail
        refine (hch _).mono ?_
        rintro e w3 ⟨rfl, hb3⟩
        have hb4 := below_step hb2 hb2.size hb3
        have hF4 := Blk.of_below hF0 hb4
        have hW4 := below_step hW0 hW0.size hb4
        go_wp2_with (refine wpList_store_row rfl 38 _ _ rfl w.heap.size (fltC ⟨20, l, K⟩) rfl rfl 38 _ hF4 (by kernel_rfl) rfl (all_flt _) ?_)
        exact bodyPost_ret (ret_num _ _ rfl rfl rfl ⟨20, l, K⟩ (hF4.row _)) rfl ⟨by rw [HE.out]; exact Or.inl ⟨by show ¬ (20 : Nat) = 0; decide, j + 2, rfl⟩, Below.row hW4 (Nat.le_refl _) _⟩
      · have hfirst : P + 0 < s.size ∧ digitV (Utf8.decode s (P + 0)).1 < 16 := by
          rw [Nat.add_zero]
          have := hlt2 (by omega)
          exact ⟨this, by rw [hdv2 this]; omega⟩
        have u1 : (((d2 : Nat) : Int) == 16) = false := by rw [beq_eq_false_iff_ne]; omega
        clear hdv2 hlt2 h62
        go_wp2_with fail
        refine (hc2 _).mono ?_
        rintro e w2 ⟨rfl, hb2⟩
        have hR0 := hR0.below hb2
        have hF0 := Blk.of_below hF0 hb2
        have hW0 := below_step hW0 hW0.size hb2
        clear z0 z1 z2 z3 z4 hc2 hd16 HX2
        go_wp2_with fail
        clear u1
        go_loopw [1, 9, 10] (fun vk vv vg wr => ∃ (n v jn : Nat) (ok : Bool), vk = .int .i64 ((jn : Nat) : Int) ∧ Hid (jn = (j + 2) + n) ∧ vv = .int .u64 ((v : Nat) : Int) ∧ vg = .bool (!ok) ∧ Hid (DigW s (j + 2) P l K 16 n v ok) ∧ Hid (Below w2.heap.size w2 wr)) (fun vk _ _ _ => (runesA s).length - (intOf vk).toNat)
        case atStart => exact ⟨0, 0, (j + 2), true, by first | rfl | go_num, rfl, rfl, rfl, HD0.out, Below.refl _ _⟩
        case round =>
          obtain ⟨n, v, jn, ok, rfl, HJn, rfl, rfl, HD, HW⟩ := hrel
          obtain ⟨pn, kn, hpn, hkn, hBn⟩ : ∃ pn kn, pn = P + n ∧ kn = K + n ∧ Bnd s jn pn l kn := ⟨_, _, rfl, rfl, by rw [HJn.out]; exact HD.out.1⟩
          have hjn := hBn.lt
          obtain ⟨r, m, d, hx, h6, h16, hlt16, hdv, hlet, hdig⟩ := rune_six hBn
          have hc := fun W => rSix_calls ⟨r, pn, m, l, kn⟩ W
          rw [h6] at hc
          obtain ⟨z0, z1, z2, z3, z4⟩ := (hR0.below HW.out).at hx
          simp only [Nat.add_zero] at z0 z1 z2 z3 z4
          unfold rnC at hc
          simp only [] at hc
          have n0 : (0 : Int) ≤ ((jn : Nat) : Int) := by omega
          have n1 : ((jn : Nat) : Int) < (((runesA s).length : Nat) : Int) := by omega
          have HX := hid_of hx
          have wD := wrapU_dig d h16
          have wS := wrapU_sub d h16
          clear hx h6
          by_cases hlt : d < 16
          · have hpl := hlt16 (by omega)
            have HM := hid_of (HD.out.more (d := d) (by omega) (by decide) (by rw [← hpn]; exact hdv hpl) hlt)
            have HJ2 : Hid (jn + 1 = (j + 2) + (n + 1)) := by rw [HJn.out]; rfl
            have t1 : ((d : Nat) : Int) < 16 := by omega
            clear hlt16 hdv hlet hdig hfirst hpn hkn
            go_wp2_with fail
            refine (hc _).mono ?_
            rintro e w4 ⟨rfl, hb4⟩
            have hW4 := below_step HW.out HW.out.size hb4
            obtain ⟨z0, z1, z2, z3, z4⟩ := (hR0.below hW4).at HX.out
            simp only [Nat.add_zero] at z0 z1 z2 z3 z4
            go_wp2_with fail
            refine (hc _).mono ?_
            rintro e w5 ⟨rfl, hb5⟩
            have hW5 := below_step hW4 hW4.size hb5
            clear z0 z1 z2 z3 z4
            cases ok
            · go_wp2_with fail
              exact ⟨⟨n + 1, _, jn + 1, _, by go_num, HJ2, by rw [← wrap_dig v 16 d]; rfl, by rfl, HM.out, hW5⟩, by simp [intOf]; omega⟩
            · go_wp2_with fail
              exact ⟨⟨n + 1, _, jn + 1, _, by go_num, HJ2, by rw [← wrap_dig v 16 d]; rfl, congrArg Value.bool (great_eq v d 16 (by omega)), HM.out, hW5⟩, by simp [intOf]; omega⟩
          · have hn0 : n ≠ 0 := by
              intro e
              subst e
              rw [← hpn] at hfirst
              rw [hdv hfirst.1] at hfirst
              omega
            have hdA := HD.out.stop (fun h => by rw [← hpn] at h ⊢; rw [hdv h]; omega)
            have hpns := hBn.1
            have t1 : ¬ ((d : Nat) : Int) < 16 := by omega
            have hnk := numK_of (s := s) (p := p) (l := l) (k := k) (a := 2) (by rw [← HP.out]; exact hdA) hn0 (by have := HP.out; omega)
            rw [← HP.out, ← hpn] at hnk
            have HNK := hid_of (HN.out.trans hnk)
            have hdg10 := hdig (by omega)
            have hcl := fun W => rLetter_calls ⟨r, pn, m, l, kn⟩ W
            have hcd := fun W => rDigit_calls ⟨r, pn, m, l, kn⟩ W
            have hch := fun W => rHere_calls ⟨r, pn, m, l, kn⟩ W
            rw [hlet] at hcl
            rw [hdg10] at hcd
            unfold rnC at hcl hcd hch
            simp only [] at hcl hcd hch
            have hxj := rune_x hB hp
            have hchj := fun W => rHere_calls ⟨runeI s p, p, (Utf8.decode s p).2, l, k⟩ W
            unfold rnC at hchj
            simp only [] at hchj
            have HXJ := hid_of hxj
            have HB := hid_of hBn
            have HKN : Hid (kn = K + n) := hkn
            clear hlt16 hdv hlet hdig hfirst hpn hkn hnk hdA hlt hdg10 hxj hdg
            go_wp2_with fail
            refine (hc _).mono ?_
            rintro e w4 ⟨rfl, hb4⟩
            have hW4 := below_step HW.out HW.out.size hb4
            clear z0 z1 z2 z3 z4 hc
            cases ok
            · rw [if_pos rfl] at HNK
              obtain ⟨z0, z1, z2, z3, z4⟩ := (hR0.below hW4).at HXJ.out
              simp only [Nat.add_zero] at z0 z1 z2 z3 z4
              clear hcl hcd hch
              generalize runeI s p = r0 at *
              generalize (Utf8.decode s p).2 = m0 at *
              go_wp2_with fail
              refine (hchj _).mono ?_
              rintro e w5 ⟨rfl, hb5⟩
              have hW5 := below_step hW4 hW4.size hb5
              have hF5 := Blk.of_below hF0 hW5
              have hWW := below_step hW0 hW0.size hW5
              go_wp2_with (refine wpList_store_row rfl 38 _ _ rfl w.heap.size (fltC ⟨20, l, k⟩) rfl rfl 38 _ hF5 (by kernel_rfl) rfl (all_flt _) ?_)
              exact bodyPost_ret (ret_num _ _ rfl rfl rfl ⟨20, l, k⟩ (hF5.row _)) rfl ⟨by rw [HNK.out]; exact Or.inl ⟨by show ¬ (20 : Nat) = 0; decide, jn, rfl⟩, Below.row hWW (Nat.le_refl _) _⟩
            · rw [if_neg (by decide)] at HNK
              obtain ⟨z0, z1, z2, z3, z4⟩ := (hR0.below hW4).at HX.out
              simp only [Nat.add_zero] at z0 z1 z2 z3 z4
              clear hchj
              cases hL : letterB (Lib.decodeGo (dropB s pn)).1
              · rw [hL] at hcl
                rw [hL, if_neg Bool.false_ne_true] at HNK
                clear hL hch
                go_wp2_with fail
                refine (hcl _).mono ?_
                rintro e w5 ⟨rfl, hb5⟩
                have hW5 := below_step hW4 hW4.size hb5
                obtain ⟨y0, y1, y2, y3, y4⟩ := (hR0.below hW5).at HX.out
                simp only [Nat.add_zero] at y0 y1 y2 y3 y4
                clear z0 z1 z2 z3 z4
                go_wp2_with fail
                refine (hcd _).mono ?_
                rintro e w6 ⟨rfl, hb6⟩
                have hW6 := below_step hW5 hW5.size hb6
                have hF6 := Blk.of_below hF0 hW6
                have hWW := below_step hW0 hW0.size hW6
                go_wp2_with (refine wpList_store_row rfl 38 _ _ rfl w.heap.size (fltC noFlt) rfl rfl 38 _ hF6 (by kernel_rfl) rfl (all_flt _) ?_)
                exact bodyPost_ret (ret_num _ _ rfl rfl rfl noFlt (hF6.row _)) rfl ⟨by rw [HNK.out]; exact Or.inr ⟨2 + n, v, rfl, by omega, by have := HD.out.1; rw [HP.out, HK.out] at this; simpa [Nat.add_assoc] using this, by rw [HJn.out, Nat.add_assoc]; rfl⟩, Below.row hWW (Nat.le_refl _) _⟩
              · rw [hL] at hcl
                rw [hL, if_pos rfl] at HNK
                clear hL hcd
                go_wp2_with fail
                refine (hcl _).mono ?_
                rintro e w5 ⟨rfl, hb5⟩
                have hW5 := below_step hW4 hW4.size hb5
                obtain ⟨y0, y1, y2, y3, y4⟩ := (hR0.below hW5).at HX.out
                simp only [Nat.add_zero] at y0 y1 y2 y3 y4
                clear z0 z1 z2 z3 z4
                go_wp2_with fail
                refine (hch _).mono ?_
                rintro e w6 ⟨rfl, hb6⟩
                have hW6 := below_step hW5 hW5.size hb6
                have hF6 := Blk.of_below hF0 hW6
                have hWW := below_step hW0 hW0.size hW6
                go_wp2_with (refine wpList_store_row rfl 38 _ _ rfl w.heap.size (fltC ⟨20, l, kn⟩) rfl rfl 38 _ hF6 (by kernel_rfl) rfl (all_flt _) ?_)
                exact bodyPost_ret (ret_num _ _ rfl rfl rfl ⟨20, l, kn⟩ (hF6.row _)) rfl ⟨by rw [HNK.out, HKN.out, HK.out]; exact Or.inl ⟨by show ¬ (20 : Nat) = 0; decide, jn, rfl⟩, Below.row hWW (Nat.le_refl _) _⟩
end Go.Proofs.YtkgppagpjbkhmaaDoor
