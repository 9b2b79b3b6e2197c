/- The contract of package rel's Union. -/
import Derived.Test.YtpflelkdkpabbaaDoorMadeMem
namespace Go.Proofs.YtpflelkdkpabbaaDoor
open Go.RowKit Go.Shelf Sx
set_option maxHeartbeats 8000000 in
theorem Union_at (s : Nat) (rs : List (Nat × Nat × List Nat)) (w : World) (h : RelsAt w s rs) (hm : rs.length ≤ 1000) (M : Nat) (HM : Hid (maxLenL (rs.map (·.2.2)) = M)) :
    Calls Tryd.prog 21 #[.slice (some ⟨s, 0, none⟩) rs.length rs.length] w fun e w' => ∃ b c, e = .returned (pv b) ∧ Made w w' b c (unionK M (rs.map (·.2.2))) := by
  go_enter Tryd.func21, Tryd.ntmps21
  go_wp2
  go_loopw [3, 13] (fun n i wr => ∃ k : Nat, k ≤ rs.length ∧ i = .int .i64 k ∧ n = .int .i64 ((maxLenL ((rs.map (·.2.2)).take k) : Nat) : Int) ∧ maxLenL ((rs.map (·.2.2)).take k) ≤ 256 ∧ w = wr) (fun _ i _ => rs.length - (intOf i).toNat)
  case atStart => exact ⟨0, by omega, rfl, rfl, by simp [maxLenL], rfl⟩
  case round =>
    obtain ⟨k, hk, rfl, rfl, hM, rfl⟩ := hrel
    by_cases hlt : k < rs.length
    · obtain ⟨r, hr⟩ : ∃ r, rs[k]? = some r := ⟨_, List.getElem?_eq_getElem hlt⟩
      have c0 := h.cell k r hr
      have hrel := h.rel k r hr
      have hl := hrel.len
      have HS : Hid (maxLenL ((rs.map (·.2.2)).take (k + 1)) = max (maxLenL ((rs.map (·.2.2)).take k)) r.2.2.length) := by
        show _ = _
        rw [List.take_add_one, List.getElem?_map, hr]
        exact maxLenL_snoc _ _
      clear hr
      generalize maxLenL ((rs.map (·.2.2)).take k) = M1 at *
      go_wp2_with (go_at_call 25; refine (Len_calls r.1 r.2.1 r.2.2 _ hrel).mono ?_; rintro e w' ⟨rfl, rfl⟩)
      refine ⟨⟨k + 1, by omega, by go_num, ?_, ?_, trivial⟩, by simp [intOf]; omega⟩
      · rw [HS.out]
        split
        · rw [Nat.max_eq_right (by omega)]
        · rw [Nat.max_eq_left (by omega)]
      · rw [HS.out]; omega
    · obtain rfl : k = rs.length := by omega
      rw [List.take_of_length_le (by simp)]
      rw [List.take_of_length_le (by simp)] at hM
      rw [HM.out] at hM ⊢
      have HL : Hid (∀ L ∈ rs.map (·.2.2), L.length ≤ M) := fun L hL => by rw [← HM.out]; exact le_maxLenL hL
      have HCL : Hid (clampN ((M : Nat) : Int) = M) := by show _ = _; unfold clampN; omega
      go_wp2_with fail
      refine (New_calls _ _).mono ?_
      rw [HCL.out]
      rintro e w1 ⟨b, c, rfl, hI1, hb1, hc1, hB1⟩
      have hM1 : Made w w1 b c (List.replicate M 0) := ⟨hI1, hb1, hc1, hB1⟩
      clear hI1 hb1 hc1 hB1 hM
      go_wp2_with fail
      go_loopw [26] (fun i wr => ∃ k : Nat, k ≤ rs.length ∧ i = .int .i64 k ∧ Made w wr b c (unionK M ((rs.map (·.2.2)).take k))) (fun i _ => rs.length - (intOf i).toNat)
      case atStart => exact ⟨0, by omega, rfl, hM1⟩
      case round =>
        clear hM1
        obtain ⟨k, hk, rfl, hM⟩ := hrel
        by_cases hlt : k < rs.length
        · obtain ⟨⟨ba, ca, L⟩, hr⟩ : ∃ r, rs[k]? = some r := ⟨_, List.getElem?_eq_getElem hlt⟩
          have hrs := h.below hM.below
          have c0 := hrs.cell k _ hr
          have hold := h.rel k _ hr
          have hlL : L.length ≤ M := HL.out L (List.mem_map.2 ⟨_, List.mem_of_getElem? hr, rfl⟩)
          have HS : Hid (unionK M ((rs.map (·.2.2)).take (k + 1)) = uniK (unionK M ((rs.map (·.2.2)).take k)) L L.length) := by
            show _ = _
            rw [List.take_add_one, List.getElem?_map, hr]
            exact unionK_snoc _ _ _
          have hlA := unionK_length M ((rs.map (·.2.2)).take k)
          generalize unionK M ((rs.map (·.2.2)).take k) = A at *
          have HlA : Hid (A.length = M) := hlA
          have hrc := (hM.old hold).hcell
          clear hr hlA
          go_wp2_with fail
          go_loopw [35] (fun i wr => ∃ p : Nat, p ≤ L.length ∧ i = .int .i64 p ∧ Made w wr b c (uniK A L p)) (fun i _ => L.length - (intOf i).toNat)
          case atStart => exact ⟨0, by omega, rfl, by rw [uniK_zero]; exact hM⟩
          case round =>
            clear hM c0 hrc hrs
            obtain ⟨p, hp, rfl, hM⟩ := hrel
            by_cases hlt2 : p < L.length
            · have hpA : p < A.length := by rw [HlA.out]; omega
              have hg : (uniK A L p)[p]? = some (gr A p) := by rw [uniK_at hpA, if_neg (by omega)]
              have hro := hM.old hold
              obtain ⟨_, ⟨x0, x1, x2, x3⟩, _, q1, q2⟩ := hro.slots (gr_of hlt2)
              obtain ⟨y, ⟨y0, y1, y2, y3⟩, _, q3, q4⟩ := hM.rel.slots hg
              have hp256 : p < 256 := by have := hold.len; omega
              have hpu : p < (uniK A L p).length := by rw [uniK_length]; exact hpA
              have HE : Hid (_ = _) := uniK_succ (L := L) hpA
              have HR : Hid (gr A p ||| gr L p < 2 ^ (uniK A L p).length) := by
                refine or_lt ?_ ?_
                · have := hM.rel.low (gr A p) (List.mem_of_getElem? hg); exact this
                · rw [uniK_length, HlA.out]
                  exact Nat.lt_of_lt_of_le (hold.gr_lt p) (Nat.pow_le_pow_right (by omega) hlL)
              go_wp2_with fail
              clear x0 x1 x2 x3 q1 q2 hro HS hlL hpA hold h HL HCL HM hlt hk hm
              go_region_with (go_at_call 50; refine (join_calls (gr A p) (gr L p) _ _ (by rw [two_lit]; exact (Blk.new2 _ _ _ _).drew)).mono ?_; rintro e w2 ⟨rfl, hB2⟩; have hM2 := ((hM.alloc _).alloc _).drew.step hB2; clear y y0 y1 y2 y3; obtain ⟨z, ⟨z0, z1, z2, z3⟩, ⟨f0, f1, f2, f3⟩, q5, q6⟩ := hM2.rel.slots hg)
              all_goals
                go_wp2_with fail
                refine ⟨⟨p + 1, by omega, by go_num, ?_⟩, by simp [intOf]; omega⟩
                rw [← HE.out]
                exact hM2.put hpu HR.out
            · obtain rfl : p = L.length := by omega
              go_wp2_with fail
              refine ⟨⟨k + 1, by omega, by go_num, ?_⟩, by simp [intOf]; omega⟩
              rw [HS.out]
              exact hM
        · obtain rfl : k = rs.length := by omega
          rw [List.take_of_length_le (by simp)] at hM
          go_wp2_with fail
          go_ret
          exact ⟨b, c, rfl, hM⟩

theorem Union_calls (s : Nat) (rs : List (Nat × Nat × List Nat)) (w : World) (h : RelsAt w s rs) (hm : rs.length ≤ 1000) :
    Calls Tryd.prog 21 #[.slice (some ⟨s, 0, none⟩) rs.length rs.length] w fun e w' => ∃ b c, e = .returned (pv b) ∧ Made w w' b c (unionL (rs.map (·.2.2))) :=
  Union_at s rs w h hm _ rfl
end Go.Proofs.YtpflelkdkpabbaaDoor
