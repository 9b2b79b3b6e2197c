/- The contracts of package rel's Copy, Opt and Of. -/
import Derived.Test.YtpflelkdkpabbaaDoorUnionWalk
import Derived.Test.YtpflelkdkpabbaaDoorFillMem
namespace Go.Proofs.YtpflelkdkpabbaaDoor
open Go.RowKit Go.Shelf Sx

theorem hid_of {p : Prop} (h : p) : Hid p := h
theorem union_one (L : List Nat) : unionL [L] = L := by
  apply List.ext_getElem?
  intro p
  have e : unionL [L] = uniK (List.replicate L.length 0) L L.length := by simp [unionL, maxLenL]
  rw [e]
  by_cases hp : p < L.length
  · rw [uniK_at (by simpa using hp), if_pos hp, gr_of hp, gr_eq (R := 0) (by simp [hp]), Nat.zero_or]
  · rw [List.getElem?_eq_none (by rw [uniK_length]; simp; omega), List.getElem?_eq_none (by omega)]

set_option maxHeartbeats 400000 in
theorem Copy_calls (b c : Nat) (L : List Nat) (w : World) (h : IsRel w b c L) :
    Calls Tryd.prog 40 #[pv b] w fun e w' => ∃ b' c', e = .returned (pv b') ∧ Made w w' b' c' L := by
  have H : Hid (∀ w, RelsAt w (w.heap.size - 1) [(b, c, L)] → Calls Tryd.prog 21 #[.slice (some ⟨w.heap.size - 1, 0, none⟩) 1 1] w fun e w' => ∃ b' c', e = .returned (pv b') ∧ Made w w' b' c' L) := by
    intro w hr
    have := Union_calls (w.heap.size - 1) [(b, c, L)] w hr (by simp)
    rw [show [(b, c, L)].map (fun x => x.2.2) = [L] from rfl, union_one] at this
    exact this
  have hr : RelsAt (w.alloc (.cells #[pv b] 22)) w.heap.size [(b, c, L)] := by
    refine ⟨?_, by simp, ?_⟩
    · intro i r hi
      match i with
      | 0 => simp at hi; subst hi; exact (Blk.new w _ _).cell rfl
      | i + 1 => simp at hi
    · intro i r hi
      match i with
      | 0 => simp at hi; subst hi; exact h.alloc _
      | i + 1 => simp at hi
  have H2 := H.out (w.alloc (.cells #[pv b] 22))
  simp only [World.size_alloc, Nat.add_sub_cancel] at H2
  have H3 := hid_of (H2 hr)
  clear H2 hr H
  go_enter Tryd.func40, Tryd.ntmps40
  go_wp2_with fail
  refine H3.out.mono ?_
  rintro e w1 ⟨b', c', rfl, hM⟩
  go_wp2_with fail
  go_ret
  refine ⟨b', c', rfl, hM.rel, ?_, ?_, ?_⟩
  · have := hM.hb; simp at this; omega
  · have := hM.hc; simp at this; omega
  · exact ((Below.refl _ w).alloc (Nat.le_refl _) _).trans (hM.below.mono (by simp))

/-- All (p, p) put in, as far as k. -/
def optK (L : List Nat) (k : Nat) : List Nat := L.mapIdx (fun p R => if p < k then setB R p true else R)
def optL (L : List Nat) : List Nat := optK L L.length
theorem optK_length (L : List Nat) (k : Nat) : (optK L k).length = L.length := by simp [optK]
theorem optK_at {L : List Nat} {k p : Nat} (hp : p < L.length) : (optK L k)[p]? = some (if p < k then setB (gr L p) p true else gr L p) := by
  rw [optK, List.getElem?_mapIdx, gr_of hp]; rfl
theorem optK_zero (L : List Nat) : optK L 0 = L := by
  apply List.ext_getElem?
  intro p
  by_cases hp : p < L.length
  · rw [optK_at hp, if_neg (by omega), gr_of hp]
  · rw [List.getElem?_eq_none (by rw [optK_length]; omega), List.getElem?_eq_none (by omega)]
theorem optK_succ {L : List Nat} {p : Nat} (hp : p < L.length) : putP (optK L p) p p true = optK L (p + 1) := by
  have hl : p < (optK L p).length := by rw [optK_length]; exact hp
  have hg : (optK L p)[p]? = some (gr L p) := by rw [optK_at hp, if_neg (by omega)]
  rw [putP_nat hl hl hg]
  apply List.ext_getElem?
  intro q
  rw [List.getElem?_set, optK_length]
  by_cases hq : q < L.length
  · rw [optK_at hq, optK_at hq]
    by_cases e : p = q
    · subst e; rw [if_pos rfl, if_pos hp, if_pos (by omega)]
    · rw [if_neg e]
      by_cases h1 : q < p
      · rw [if_pos h1, if_pos (by omega)]
      · rw [if_neg h1, if_neg (by omega)]
  · rw [if_neg (by omega), List.getElem?_eq_none (by rw [optK_length]; omega), List.getElem?_eq_none (by rw [optK_length]; omega)]

set_option maxHeartbeats 1000000 in
theorem Opt_calls (ba ca : Nat) (L : List Nat) (w : World) (h : IsRel w ba ca L) :
    Calls Tryd.prog 14 #[pv ba] w fun e w' => ∃ b c, e = .returned (pv b) ∧ Made w w' b c (optL L) := by
  have hl := h.len
  go_enter Tryd.func14, Tryd.ntmps14
  go_wp2_with fail
  refine (Copy_calls ba ca L _ h).mono ?_
  rintro e w1 ⟨b, c, rfl, hM1⟩
  have hh := hM1.rel.hcell
  go_wp2_with fail
  clear hh
  go_loopw [12] (fun i wr => ∃ k : Nat, k ≤ L.length ∧ i = .int .i64 k ∧ Made w wr b c (optK L k)) (fun i _ => L.length - (intOf i).toNat)
  case atStart => exact ⟨0, by omega, rfl, by rw [optK_zero]; exact hM1⟩
  case round =>
    clear hM1
    obtain ⟨k, hk, rfl, hM⟩ := hrel
    by_cases hlt : k < L.length
    · have HE : Hid (_ = _) := optK_succ hlt
      go_wp2_with fail
      refine (Put_calls b c (optK L k) k k true _ hM.rel).mono ?_
      rw [HE.out]
      rintro e w2 ⟨rfl, hI, ht⟩
      go_wp2_with fail
      refine ⟨⟨k + 1, by omega, by go_num, hM.touch hI ht⟩, by simp [intOf]; omega⟩
    · obtain rfl : k = L.length := by omega
      go_wp2_with fail
      go_ret
      exact ⟨b, c, rfl, hM⟩

/-- What Of makes of a list of pairs. -/
def ofK (n : Nat) (l : List (Int × Int)) : List Nat := l.foldl (fun A x => putP A x.1 x.2 true) (List.replicate n 0)
theorem ofK_snoc (n : Nat) (l : List (Int × Int)) (x : Int × Int) : ofK n (l ++ [x]) = putP (ofK n l) x.1 x.2 true := by simp [ofK]
def ofL (n : Int) (l : List (Int × Int)) : List Nat := ofK (clampN n) l
/-- The pairs lie in block s from o on. -/
structure PairsAt (w : World) (s o : Nat) (l : List (Int × Int)) : Prop where
  lt : s < w.heap.size
  fst : ∀ (i : Nat) (x : Int × Int), l[i]? = some x → w.cell? ⟨s, o + i * 2, none⟩ = some (.int .i64 x.1)
  snd : ∀ (i : Nat) (x : Int × Int), l[i]? = some x → w.cell? ⟨s, o + i * 2 + 1, none⟩ = some (.int .i64 x.2)
theorem PairsAt.below {w w' : World} {s o : Nat} {l : List (Int × Int)} (h : PairsAt w s o l) (hb : Below w.heap.size w w') : PairsAt w' s o l :=
  ⟨Nat.lt_of_lt_of_le h.lt hb.size, fun i x hx => (hb.cell (p := ⟨s, o + i * 2, none⟩) h.lt).trans (h.fst i x hx), fun i x hx => (hb.cell (p := ⟨s, o + i * 2 + 1, none⟩) h.lt).trans (h.snd i x hx)⟩

set_option maxHeartbeats 1000000 in
theorem Of_at (n : Int) (s o cap : Nat) (l : List (Int × Int)) (w : World) (h : PairsAt w s o l) (hm : l.length ≤ 1152921504606846975) (m : Nat) (Hm : Hid (clampN n = m)) :
    Calls Tryd.prog 33 #[.int .i64 n, .slice (some ⟨s, o, none⟩) l.length cap] w fun e w' => ∃ b c, e = .returned (pv b) ∧ Made w w' b c (ofK m l) := by
  go_enter Tryd.func33, Tryd.ntmps33
  go_wp2_with fail
  refine (New_calls n _).mono ?_
  rw [Hm.out]
  rintro e w1 ⟨b, c, rfl, h1, h2, h3, h4⟩
  have hM1 : Made w w1 b c (List.replicate m 0) := ⟨h1, h2, h3, h4⟩
  clear h1 h2 h3 h4
  go_wp2_with fail
  go_loopw [12] (fun i wr => ∃ k : Nat, k ≤ l.length ∧ i = .int .i64 k ∧ Made w wr b c (ofK m (l.take k))) (fun i _ => l.length - (intOf i).toNat)
  case atStart => exact ⟨0, by omega, rfl, hM1⟩
  case round =>
    clear hM1
    obtain ⟨k, hk, rfl, hM⟩ := hrel
    by_cases hlt : k < l.length
    · obtain ⟨⟨x, y⟩, hx⟩ : ∃ x, l[k]? = some x := ⟨_, List.getElem?_eq_getElem hlt⟩
      have hp := h.below hM.below
      have c0 := hp.fst k _ hx
      have c1 := hp.snd k _ hx
      have HE : Hid (putP (ofK m (l.take k)) x y true = ofK m (l.take (k + 1))) := by
        show _ = _
        rw [List.take_add_one, hx]
        exact (ofK_snoc m _ (x, y)).symm
      clear hx
      go_wp2_with fail
      refine (Put_calls b c (ofK m (l.take k)) x y true _ (hM.alloc _).rel).mono ?_
      rw [HE.out]
      rintro e w2 ⟨rfl, hI, ht⟩
      go_wp2_with fail
      refine ⟨⟨k + 1, by omega, by go_num, (hM.alloc _).touch hI ht⟩, by simp [intOf]; omega⟩
    · obtain rfl : k = l.length := by omega
      rw [List.take_length] at hM
      go_wp2_with fail
      go_ret
      exact ⟨b, c, rfl, hM⟩
theorem Of_calls (n : Int) (s o cap : Nat) (l : List (Int × Int)) (w : World) (h : PairsAt w s o l) (hm : l.length ≤ 1152921504606846975) :
    Calls Tryd.prog 33 #[.int .i64 n, .slice (some ⟨s, o, none⟩) l.length cap] w fun e w' => ∃ b c, e = .returned (pv b) ∧ Made w w' b c (ofL n l) := Of_at n s o cap l w h hm _ rfl
set_option maxHeartbeats 1000000 in
theorem Of_nil (n : Int) (w : World) :
    Calls Tryd.prog 33 #[.int .i64 n, .slice none 0 0] w fun e w' => ∃ b c, e = .returned (pv b) ∧ Made w w' b c (ofL n []) := by
  go_enter Tryd.func33, Tryd.ntmps33
  go_wp2_with fail
  refine (New_calls n _).mono ?_
  rintro e w1 ⟨b, c, rfl, h1, h2, h3, h4⟩
  go_wp2_with fail
  go_loopw [12] (fun i wr => i = .int .i64 0 ∧ wr = w1) (fun _ _ => 0)
  case atStart => exact ⟨rfl, rfl⟩
  case round =>
    obtain ⟨rfl, rfl⟩ := hrel
    go_wp2_with fail
    go_ret
    exact ⟨b, c, rfl, h1, h2, h3, h4⟩
end Go.Proofs.YtpflelkdkpabbaaDoor
