/- The contract of package order's Glue. -/
import Derived.Test.YteejkhgccaagiaaDoorOrdGl
namespace Go.Proofs.YteejkhgccaagiaaDoor
open Go.RowKit Go.Shelf Sx

theorem gluF_ok (n : Nat) : ∀ (l : List (Int × Int)) (bs bs' : List (List Nat)), gluF n l bs = some bs' → (bs.length = n ∧ ∀ bl ∈ bs, bl.length ≤ 2 ∧ ∀ p ∈ bl, p < n) → bs'.length = n ∧ ∀ bl ∈ bs', bl.length ≤ 2 ∧ ∀ p ∈ bl, p < n
  | [], bs, bs', h, hb => by
    have h : some bs = some bs' := h
    injection h with h
    rw [← h]; exact hb
  | (a, b) :: l, bs, bs', h, hb => by
    rw [gluF] at h
    split at h
    · rename_i hc
      obtain ⟨i, rfl, hi⟩ := inR_true (freeB_in hc.2.1)
      obtain ⟨j, rfl, hj⟩ := inR_true (freeB_in hc.2.2)
      refine gluF_ok n l _ bs' h ⟨by simpa using hb.1, fun bl hbl => ?_⟩
      rcases List.mem_or_eq_of_mem_set hbl with hbl | rfl
      · rcases List.mem_or_eq_of_mem_set hbl with hbl | rfl
        · exact hb.2 bl hbl
        · refine ⟨by simp, fun p hp => ?_⟩
          simp at hp
          omega
      · exact ⟨by simp, fun p hp => by cases hp⟩
    · cases h
theorem glInit_ok (n : Nat) : (glInit n).length = n ∧ ∀ bl ∈ glInit n, bl.length ≤ 2 ∧ ∀ p ∈ bl, p < n := by
  refine ⟨glInit_length n, fun bl hbl => ?_⟩
  obtain ⟨p, hp, rfl⟩ := List.mem_map.1 hbl
  refine ⟨by simp, fun q hq => ?_⟩
  simp at hq
  subst hq
  simpa using hp
theorem encJ_toI (l : List Nat) : encJ (toI l) = encN l := by simp [encJ, toI, encN]
/-- The blocks that Glue lays: as many as are not empty. -/
def glB (L : List Nat) (l : List (Int × Int)) : Option (List (List Nat)) := (gluF L.length l (glInit L.length)).map (fun bs => bs.filter (fun b => !b.isEmpty))
/-- What Glue answers: a list, or the error's number. -/
def glueF (L : List Nat) (l : List (Int × Int)) : List Nat × Int :=
  match glB L l with
  | none => ([], 1)
  | some bs => if (sortOf (betw L bs)).length = bs.length then (if linB L (toI (sbOf L bs).flatten) = true then ((sbOf L bs).flatten, 0) else ([], 3)) else ([], 3)
def GlueAns (w w' : World) (r : List Nat × Int) (e : Ending) : Prop := ∃ v, e = .returned (.tuple #[v, .int .i64 r.2]) ∧ (r.2 = 0 → w'.ownsRow w.heap.size 3 1 v r.1.length (encN r.1)) ∧ (r.2 ≠ 0 → v = .slice none 0 0)
set_option maxRecDepth 100000 in
set_option maxHeartbeats 2000000 in
theorem oGlue_calls (b c : Nat) (L : List Nat) (v : Value) (l : List (Int × Int)) (w : World) (h : IsRel w b c L) (hT : Tab w) (hv : ∃ p cap, v = .slice p l.length cap ∧ (0 < l.length → ∃ s o, p = some ⟨s, o, none⟩ ∧ PairsAt w s o l)) (hm : l.length ≤ 9223372036854775807) :
    Calls Tryd.prog 19 #[pv b, v] w fun e w' => GlueAns w w' (glueF L l) e ∧ Below w.heap.size w w' := by
  have hl := h.len
  have hg := oGlued_calls L.length hl v l w hv hm
  cases hgl : gluF L.length l (glInit L.length) with
  | none =>
    have er : glueF L l = ([], 1) := by simp [glueF, glB, hgl]
    rw [er]
    have HGL := hid_of hgl
    clear hgl er
    go_enter Tryd.func19, Tryd.ntmps19
    go_wp2_with (first | (go_at_call 30; refine (Len_calls b c L _ h).mono ?_; rintro e w' ⟨rfl, hw'⟩; obtain rfl : w = w' := hw'.symm) | (go_at_call 46; refine hg.mono ?_; rintro e w1 ⟨⟨hA, _⟩, hB1⟩; obtain rfl := hA HGL.out))
    go_ret2
    exact ⟨⟨_, rfl, (fun e => absurd e (by decide)), fun _ => rfl⟩, hB1⟩
  | some bs0 =>
    obtain ⟨hb0, hb1⟩ := gluF_ok L.length l _ bs0 hgl (glInit_ok L.length)
    have hfl : (bs0.filter (fun b => !b.isEmpty)).length ≤ 256 := Nat.le_trans (List.length_filter_le _ _) (by omega)
    have hfp : ∀ bl ∈ bs0.filter (fun b => !b.isEmpty), (0 < bl.length ∧ bl.length ≤ 256) ∧ ∀ p ∈ bl, p < L.length := fun bl hbl => by
      obtain ⟨h1, h2⟩ := List.mem_filter.1 hbl
      have h3 := hb1 bl h1
      refine ⟨⟨?_, by omega⟩, h3.2⟩
      cases bl with
      | nil => simp at h2
      | cons _ _ => simp
    have er : glueF L l = if (sortOf (betw L (bs0.filter (fun b => !b.isEmpty)))).length = (bs0.filter (fun b => !b.isEmpty)).length then (if linB L (toI (sbOf L (bs0.filter (fun b => !b.isEmpty))).flatten) = true then ((sbOf L (bs0.filter (fun b => !b.isEmpty))).flatten, 0) else ([], 3)) else ([], 3) := by simp [glueF, glB, hgl]
    have HER := hid_of er
    have HGL := hid_of hgl
    have HFP := hid_of hfp
    clear hgl er hfp hb1
    generalize hbs : bs0.filter (fun b => !b.isEmpty) = bs at *
    have HBS := hid_of hbs
    clear hbs
    have hgl : gluF L.length l (glInit L.length) = some bs0 := HGL.out
    by_cases hX : (sortOf (betw L bs)).length = bs.length
    · have hsb : (sbOf L bs).length ≤ 256 ∧ ∀ bl ∈ sbOf L bs, 0 < bl.length ∧ bl.length ≤ 256 := by
        refine ⟨by simp [sbOf, hX]; omega, fun bl hbl => ?_⟩
        obtain ⟨j, hj, rfl⟩ := List.mem_map.1 hbl
        have hjn := sortOf_lt (betw L bs) j hj
        rw [betw_length] at hjn
        have hm2 : bs.getD j [] ∈ bs := by
          rw [List.getD_eq_getElem?_getD, List.getElem?_eq_getElem hjn]
          exact List.getElem_mem _
        exact (HFP.out _ hm2).1
      have hr := HER.out
      rw [if_pos hX] at hr
      have HX := hid_of hX
      clear HER HGL hX
      go_enter Tryd.func19, Tryd.ntmps19
      go_wp2_with (first | (go_at_call 30; refine (Len_calls b c L _ h).mono ?_; rintro e w' ⟨rfl, hw'⟩; obtain rfl : w = w' := hw'.symm) | (go_at_call 46; refine hg.mono ?_; rintro e w1 ⟨⟨_, hA⟩, hB1⟩; obtain ⟨v1, rfl, hbv⟩ := hA bs0 hgl))
      rw [HBS.out] at hbv
      refine (oSortB_calls b c L v1 bs w1 (h.below hB1) (hT.step hB1) hbv hfl (fun bl hb => ⟨(HFP.out bl hb).1.2, (HFP.out bl hb).2⟩)).mono ?_
      rintro e w2 ⟨v2, code, rfl, ⟨hS1, _⟩, hB2⟩
      obtain ⟨rfl, hbv2⟩ := hS1 HX.out
      have hBw2 : Below w.heap.size w w2 := below_step hB1 hB1.size hB2
      have hcat := slConcat_calls v2 (sbOf L bs) w2 hbv2 hsb.1 hsb.2
      clear hbv hbv2 hsb hS1 hA
      generalize sbOf L bs = sb at *
      go_wp2_with fail
      refine hcat.mono ?_
      rintro e w3 ⟨v3, rfl, ho3, hB3⟩
      have hBw3 : Below w.heap.size w w3 := below_step hBw2 hBw2.size hB3
      have hI3 : IntsR w3 v3 (toI sb.flatten) := owns_intsR (base := w2.heap.size) (by
        rw [toI_length, encJ_toI]
        exact ho3)
      have hlin := oLinear_calls b c L v3 (toI sb.flatten) w3 (h.below hBw3) (hT.step hBw3) hI3
      have HO3 := hid_of ho3
      clear hcat ho3 hI3 hg
      generalize toI sb.flatten = tf at *
      cases hlb : linB L tf
      · rw [hlb] at hlin
        have HRR : Hid (glueF L l = ([], 3)) := hr.trans (by rw [hlb]; simp)
        clear hr hlb
        go_wp2_with (go_at_call 21; refine hlin.mono ?_; rintro e w4 ⟨rfl, hB4⟩)
        go_ret2
        rw [HRR.out]
        exact ⟨⟨_, rfl, (fun e => absurd e (by decide)), fun _ => rfl⟩, below_step hBw3 hBw3.size hB4⟩
      · rw [hlb] at hlin
        have HRR : Hid (glueF L l = (sb.flatten, 0)) := hr.trans (by rw [hlb]; simp)
        clear hr hlb
        go_wp2_with (go_at_call 21; refine hlin.mono ?_; rintro e w4 ⟨rfl, hB4⟩)
        go_ret2
        rw [HRR.out]
        exact ⟨⟨_, rfl, (fun _ => owns_below' (owns_lo HO3.out hBw2.size) hB4), fun e => absurd rfl e⟩, below_step hBw3 hBw3.size hB4⟩
    · have HRR : Hid (glueF L l = ([], 3)) := HER.out.trans (by rw [if_neg hX])
      have HX := hid_of hX
      clear HER HGL hX
      go_enter Tryd.func19, Tryd.ntmps19
      go_wp2_with (first | (go_at_call 30; refine (Len_calls b c L _ h).mono ?_; rintro e w' ⟨rfl, hw'⟩; obtain rfl : w = w' := hw'.symm) | (go_at_call 46; refine hg.mono ?_; rintro e w1 ⟨⟨_, hA⟩, hB1⟩; obtain ⟨v1, rfl, hbv⟩ := hA bs0 hgl))
      rw [HBS.out] at hbv
      refine (oSortB_calls b c L v1 bs w1 (h.below hB1) (hT.step hB1) hbv hfl (fun bl hb => ⟨(HFP.out bl hb).1.2, (HFP.out bl hb).2⟩)).mono ?_
      rintro e w2 ⟨v2, code, rfl, ⟨_, hS2⟩, hB2⟩
      obtain rfl := hS2 HX.out
      go_wp2_with fail
      go_ret2
      rw [HRR.out]
      exact ⟨⟨_, rfl, (fun e => absurd e (by decide)), fun _ => rfl⟩, below_step hB1 hB1.size hB2⟩
end Go.Proofs.YteejkhgccaagiaaDoor
