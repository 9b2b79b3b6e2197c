/- What follows of an allowed graph: the maths of RcLaws. (Printed by rcm.py.) -/
import Derived.Test.YtjhhimjnoljojaaGreatDoorJ25
import Derived.Test.YtjhhimjnoljojaaGreatDoorGLawM
namespace Go.Proofs.YtjhhimjnoljojaaGreatDoor
open Go.RowKit Go.Shelf Sx Relation
section
variable {n : Nat} {A B C : List Nat}
theorem hs_opt (ha : WF n A) (p q : Nat) : hs (optL A) p q ↔ hs A p q ∨ (p = q ∧ p < n) := by
  by_cases hp : p < n
  · unfold hs optL
    rw [gr_eq (optK_at (by rw [ha.len]; exact hp)), if_pos (by rw [ha.len]; exact hp), testBit_setB]
    by_cases e : q = p
    · subst e; simp [hp]
    · rw [if_neg e]
      constructor
      · exact fun h => Or.inl h
      · rintro (h | ⟨h, _⟩)
        · exact h
        · exact absurd h.symm e
  · constructor
    · intro h
      have := hs_left h
      unfold optL at this
      rw [optK_length, ha.len] at this
      omega
    · rintro (h | h)
      · have := hs_left h; rw [ha.len] at this; omega
      · omega
theorem wf_opt (ha : WF n A) : WF n (optL A) := by
  refine ⟨by unfold optL; rw [optK_length, ha.len], fun p q h => ?_⟩
  rcases (hs_opt ha p q).1 h with h | ⟨rfl, h'⟩
  · exact ha.low _ _ h
  · exact h'
theorem hs_union3 (ha : WF n A) (hb : WF n B) (hc : WF n C) (p q : Nat) : hs (unionL [A, B, C]) p q ↔ hs A p q ∨ hs B p q ∨ hs C p q := by
  have e : unionL [A, B, C] = uniK (uniK (uniK (List.replicate n 0) A A.length) B B.length) C C.length := by
    simp [unionL, maxLenL, ha.len, hb.len, hc.len]
  rw [e, hs_uni (by rw [uniK_length, uniK_length, List.length_replicate]) hc, hs_uni (by rw [uniK_length, List.length_replicate]) hb, hs_uni (by rw [List.length_replicate]) ha]
  constructor
  · rintro (((h | h) | h) | h)
    · exact absurd h (hs_zero _ _ _)
    · exact .inl h
    · exact .inr (.inl h)
    · exact .inr (.inr h)
  · rintro (h | h | h)
    · exact .inl (.inl (.inr h))
    · exact .inl (.inr h)
    · exact .inr h
theorem wf_union3 (ha : WF n A) (hb : WF n B) (hc : WF n C) : WF n (unionL [A, B, C]) := by
  refine ⟨by simp [unionL, maxLenL, uniK_length, ha.len, hb.len, hc.len], fun p q h => ?_⟩
  rcases (hs_union3 ha hb hc p q).1 h with h | h | h
  · exact ha.low _ _ h
  · exact hb.low _ _ h
  · exact hc.low _ _ h
end
theorem row_bit (n : Nat) (l : List Bool) (p : Nat) : (rowOfL n l).testBit p = true ↔ p < n ∧ l.getD p false = true := by
  unfold rowOfL
  rw [testBit_rowOfK, Bool.and_eq_true, decide_eq_true_eq]
  constructor
  · exact fun h => ⟨by omega, h.2⟩
  · rintro ⟨h1, h2⟩
    refine ⟨?_, h2⟩
    have : p < l.length := by
      apply Nat.lt_of_not_le
      intro hle
      rw [List.getD_eq_getElem?_getD, List.getElem?_eq_none hle] at h2
      cases h2
    omega
theorem row_mem {n : Nat} (hn : n ≤ 256) (l : List Bool) (p : Nat) : p ∈ bitsOf (rowOfL n l) ↔ p < n ∧ l.getD p false = true := by
  rw [mem_bitsOf, row_bit]
  exact ⟨fun h => h.2, fun h => ⟨by omega, h⟩⟩
theorem identIn_len : ∀ (l : List Nat) (X : List Nat), (identIn X l).length = X.length
  | [], _ => rfl
  | q :: l, X => by
    show (identIn (putP X q q true) l).length = _
    rw [identIn_len l, putP_len]
theorem hs_identIn : ∀ (l : List Nat) (X : List Nat), (∀ q ∈ l, q < X.length) → ∀ a b, hs (identIn X l) a b ↔ hs X a b ∨ (a = b ∧ a ∈ l)
  | [], X, _, a, b => by simp [identIn]
  | q :: l, X, hq, a, b => by
    show hs (identIn (putP X q q true) l) a b ↔ _
    rw [hs_identIn l _ (fun r hr => by rw [putP_len]; exact hq r (List.mem_cons_of_mem _ hr)), hs_put (hq q (by simp)) (hq q (by simp))]
    constructor
    · rintro ((h | ⟨rfl, rfl⟩) | ⟨rfl, h⟩)
      · exact Or.inl h
      · exact Or.inr ⟨rfl, by simp⟩
      · exact Or.inr ⟨rfl, List.mem_cons_of_mem _ h⟩
    · rintro (h | ⟨rfl, h⟩)
      · exact Or.inl (Or.inl h)
      · rcases List.mem_cons.1 h with rfl | h
        · exact Or.inl (Or.inr ⟨rfl, rfl⟩)
        · exact Or.inr ⟨rfl, h⟩
theorem hs_can {n : Nat} {F : Nat → Nat → Bool} {p q : Nat} (h : hs (canL n F) p q) : p < n ∧ q < n ∧ F p q = true := by
  have hp := hs_left h
  rw [canL_length] at hp
  have h2 := h
  unfold hs at h2
  rw [gr_canL n F hp, testBit_rowK, Bool.and_eq_true, decide_eq_true_iff] at h2
  exact ⟨hp, h2.1, h2.2⟩
theorem hs_idn {n : Nat} (hn : n ≤ 256) {l : List Bool} {p q : Nat} (h : hs (identL ((n : Nat) : Int) l) p q) : p = q ∧ l.getD p false = true := by
  unfold identL at h
  rw [clamp_small hn] at h
  rw [hs_identIn _ _ (fun q hq => by rw [List.length_replicate]; exact ((row_mem hn l q).1 hq).1), row_mem hn] at h
  rcases h with h | h
  · exact absurd h (hs_zero _ _ _)
  · exact ⟨h.1, h.2.2⟩
theorem wf_idn {n : Nat} (hn : n ≤ 256) (l : List Bool) : WF n (identL ((n : Nat) : Int) l) := by
  refine ⟨by unfold identL; rw [identIn_len, List.length_replicate, clamp_small hn], fun p q h => ?_⟩
  have hp := hs_left h
  have := hs_idn hn h
  unfold identL at hp
  rw [identIn_len, List.length_replicate, clamp_small hn] at hp
  omega
theorem tru_at {P : Ev → Bool} {evs : List Ev} {p : Nat} (h : (truL P evs).getD p false = true) : p < evs.length ∧ P (evs.getD p Ev.zero) = true := by
  unfold truL at h
  rw [List.getD_eq_getElem?_getD, List.getElem?_map] at h
  cases he : evs[p]? with
  | none => rw [he] at h; simp at h
  | some e =>
    rw [he] at h
    simp at h
    refine ⟨(List.getElem?_eq_some_iff.1 he).1, ?_⟩
    rw [List.getD_eq_getElem?_getD, he]
    exact h
section
variable {g : Gr} {p q : Nat}
theorem hs_knd (hn : g.evs.length ≤ 256) {x : Int} (h : hs (identL ((g.evs.length : Nat) : Int) (kndL g x)) p q) : p = q ∧ p < g.evs.length ∧ (g.ev p).k = x := by
  obtain ⟨h1, h2⟩ := hs_idn hn h
  have h3 := tru_at h2
  exact ⟨h1, h3.1, by have := h3.2; exact beq_iff_eq.1 this⟩
theorem hs_md (hn : g.evs.length ≤ 256) {ms : List Int} (h : hs (identL ((g.evs.length : Nat) : Int) (mdL g ms)) p q) : p = q ∧ p < g.evs.length ∧ (g.ev p).m ∈ ms := by
  obtain ⟨h1, h2⟩ := hs_idn hn h
  have h3 := tru_at h2
  exact ⟨h1, h3.1, by have := h3.2; exact List.contains_iff_mem.1 this⟩
theorem wf_LG (g : Gr) (i : Nat) : WF g.evs.length (LG g i) := by
  match i with
  | 0 => exact canL_wf _ _
  | 1 => exact canL_wf _ _
  | 2 => exact canL_wf _ _
  | 3 => exact canL_wf _ _
  | 4 => exact canL_wf _ _
  | 5 => exact canL_wf _ _
  | 6 => exact canL_wf _ _
  | 7 => exact canL_wf _ _
  | 8 => exact canL_wf _ _
  | n + 9 => exact canL_wf _ _
theorem hs_ur (hn : g.evs.length ≤ 256) (h : hs (urL g) p q) : p = q ∧ ((g.ev p).k = 2 ∨ (g.ev p).k = 3) := by
  rcases (hs_union (wf_idn hn _) (wf_idn hn _) p q).1 h with h | h
  · have := hs_knd hn h; exact ⟨this.1, .inl this.2.2⟩
  · have := hs_knd hn h; exact ⟨this.1, .inr this.2.2⟩
theorem hs_ua (hn : g.evs.length ≤ 256) (h : hs (uaL g) p q) : p = q ∧ ((g.ev p).k = 1 ∨ (g.ev p).k = 3) := by
  rcases (hs_union (wf_idn hn _) (wf_idn hn _) p q).1 h with h | h
  · have := hs_knd hn h; exact ⟨this.1, .inl this.2.2⟩
  · have := hs_knd hn h; exact ⟨this.1, .inr this.2.2⟩
theorem wf_ur (hn : g.evs.length ≤ 256) : WF g.evs.length (urL g) := wf_union (wf_idn hn _) (wf_idn hn _)
theorem wf_ua (hn : g.evs.length ≤ 256) : WF g.evs.length (uaL g) := wf_union (wf_idn hn _) (wf_idn hn _)
theorem hs_rel (hn : g.evs.length ≤ 256) (h : hs (relL g) p q) : p = q ∧ (g.ev p).m ∈ ([3, 4, 5] : List Int) ∧ ((g.ev p).k = 2 ∨ (g.ev p).k = 3) := by
  obtain ⟨m, h1, h2⟩ := (hs_comp hn (wf_idn hn _) (wf_ur hn) p q).1 h
  obtain ⟨rfl, _, h3⟩ := hs_md hn h1
  obtain ⟨rfl, h4⟩ := hs_ur hn h2
  exact ⟨rfl, h3, h4⟩
theorem hs_acq (hn : g.evs.length ≤ 256) (h : hs (acqL g) p q) : p = q ∧ (g.ev p).m ∈ ([2, 4, 5] : List Int) ∧ ((g.ev p).k = 1 ∨ (g.ev p).k = 3) := by
  obtain ⟨m, h1, h2⟩ := (hs_comp hn (wf_idn hn _) (wf_ua hn) p q).1 h
  obtain ⟨rfl, _, h3⟩ := hs_md hn h1
  obtain ⟨rfl, h4⟩ := hs_ua hn h2
  exact ⟨rfl, h3, h4⟩
theorem wf_rel (hn : g.evs.length ≤ 256) : WF g.evs.length (relL g) := wf_comp hn (wf_idn hn _) (wf_ur hn)
theorem wf_acq (hn : g.evs.length ≤ 256) : WF g.evs.length (acqL g) := wf_comp hn (wf_idn hn _) (wf_ua hn)
theorem wf_pl : WF g.evs.length (plL (LG g)) := wf_inter (wf_LG g 0) (wf_LG g 5)
theorem wf_rr (hn : g.evs.length ≤ 256) : WF g.evs.length (rrL (LG g)) := wf_comp hn (wf_LG g 1) (wf_LG g 4)
theorem wf_srr (hn : g.evs.length ≤ 256) : WF g.evs.length (srrL (LG g)) := wf_opt (wf_plus (wf_rr hn))
theorem rs_comp (g : Gr) (Ls : Nat → List Nat) : rsL g Ls = compL (compL (compL (wrI g) (optL (plL Ls))) (wrI g)) (srrL Ls) := by
  simp only [rsL, chainL, List.foldl]
theorem sw_comp (g : Gr) (Ls : Nat → List Nat) : swL g Ls = compL (compL (compL (compL (compL (compL (relL g) (optL (fpL g Ls))) (rsL g Ls)) (Ls 1)) (rdI g)) (optL (pfL g Ls))) (acqL g) := by
  simp only [swL, chainL, List.foldl]
theorem wf_wr (hn : g.evs.length ≤ 256) : WF g.evs.length (wrI g) := wf_idn hn _
theorem wf_rd (hn : g.evs.length ≤ 256) : WF g.evs.length (rdI g) := wf_idn hn _
theorem wf_rs (hn : g.evs.length ≤ 256) : WF g.evs.length (rsL g (LG g)) := by
  rw [rs_comp]
  exact wf_comp hn (wf_comp hn (wf_comp hn (wf_wr hn) (wf_opt wf_pl)) (wf_wr hn)) (wf_srr hn)
theorem wf_fp (hn : g.evs.length ≤ 256) : WF g.evs.length (fpL g (LG g)) := wf_comp hn (wf_idn hn _) (wf_LG g 0)
theorem wf_pf (hn : g.evs.length ≤ 256) : WF g.evs.length (pfL g (LG g)) := wf_comp hn (wf_LG g 0) (wf_idn hn _)
theorem wf_sw (hn : g.evs.length ≤ 256) : WF g.evs.length (swL g (LG g)) := by
  rw [sw_comp]
  exact wf_comp hn (wf_comp hn (wf_comp hn (wf_comp hn (wf_comp hn (wf_comp hn (wf_rel hn) (wf_opt (wf_fp hn))) (wf_rs hn)) (wf_LG g 1)) (wf_rd hn)) (wf_opt (wf_pf hn))) (wf_acq hn)
theorem sw_parts (hn : g.evs.length ≤ 256) (h : hs (swL g (LG g)) p q) : ∃ a b c d e : Nat, hs (relL g) p a ∧ hs (optL (fpL g (LG g))) a b ∧ hs (rsL g (LG g)) b c ∧ hs (LG g 1) c d ∧ hs (rdI g) d d ∧ hs (optL (pfL g (LG g))) d e ∧ hs (acqL g) e q := by
  rw [sw_comp] at h
  have w1 := wf_comp hn (wf_rel hn) (wf_opt (wf_fp hn))
  have w2 := wf_comp hn w1 (wf_rs hn)
  have w3 := wf_comp hn w2 (wf_LG g 1)
  have w4 := wf_comp hn w3 (wf_rd hn)
  have w5 := wf_comp hn w4 (wf_opt (wf_pf hn))
  obtain ⟨e, h6, h7⟩ := (hs_comp hn w5 (wf_acq hn) p q).1 h
  obtain ⟨d', h5, h8⟩ := (hs_comp hn w4 (wf_opt (wf_pf hn)) p e).1 h6
  obtain ⟨d, h4, h9⟩ := (hs_comp hn w3 (wf_rd hn) p d').1 h5
  obtain ⟨c, h3, h10⟩ := (hs_comp hn w2 (wf_LG g 1) p d).1 h4
  obtain ⟨b, h2, h11⟩ := (hs_comp hn w1 (wf_rs hn) p c).1 h3
  obtain ⟨a, h1, h12⟩ := (hs_comp hn (wf_rel hn) (wf_opt (wf_fp hn)) p b).1 h2
  obtain ⟨rfl, _⟩ := hs_knd hn h9
  exact ⟨a, b, c, d, e, h1, h12, h11, h10, h9, h8, h7⟩
theorem sw_ends (hn : g.evs.length ≤ 256) (h : hs (swL g (LG g)) p q) : ((g.ev p).m ∈ ([3, 4, 5] : List Int) ∧ ((g.ev p).k = 2 ∨ (g.ev p).k = 3)) ∧ (g.ev q).m ∈ ([2, 4, 5] : List Int) ∧ ((g.ev q).k = 1 ∨ (g.ev q).k = 3) := by
  obtain ⟨a, b, c, d, e, h1, _, _, _, _, _, h7⟩ := sw_parts hn h
  obtain ⟨rfl, h2⟩ := hs_rel hn h1
  obtain ⟨rfl, h3⟩ := hs_acq hn h7
  exact ⟨h2, h3⟩
theorem not_ini (h : Wf g false) (hp : p < g.evs.length) (hm : (g.ev p).m ≠ 1) : 0 ≤ (g.ev p).t := by
  have h2 : bad2 g false = -1 := h 1 (by omega)
  have h3 : bad3 g false = -1 := h 2 (by omega)
  by_cases hc : p < g.cells.toNat
  · have := fst_all h2 p (Nat.zero_le _) (by omega)
    have e : g.ev p = iniEv p false := Ev.ndec_false this
    rw [e] at hm
    exact absurd rfl hm
  · have := fst_all h3 p (by omega) (by omega)
    simp [okEv] at this
    omega
def Air (g : Gr) (p q : Nat) : Prop := hs (LG g 0) p q ∨ hs (LG g 1) p q
def Air' (g : Gr) (p q : Nat) : Prop := p = q ∨ TransGen (Air g) p q
theorem Air'.refl (g : Gr) (p : Nat) : Air' g p p := .inl rfl
theorem Air'.trans {a b c : Nat} (h : Air' g a b) (k : Air' g b c) : Air' g a c := by
  rcases h with rfl | h
  · exact k
  · rcases k with rfl | k
    · exact .inr h
    · exact .inr (h.trans k)
theorem Air'.one {a b : Nat} (h : Air g a b) : Air' g a b := .inr (.single h)
theorem rmw_air (hw : Wf g false) (h : hs (LG g 4) p q) : hs (LG g 0) p q := by
  obtain ⟨hp, hq, hm⟩ := hs_can h
  have := rmw_po hw hm
  have e : hs (canL g.evs.length (poB g.evs)) p q := by
    unfold hs
    rw [gr_canL _ _ hp, testBit_rowK, decide_eq_true hq, this]
    rfl
  exact e
theorem rs_air (hn : g.evs.length ≤ 256) (hw : Wf g false) (h : hs (rsL g (LG g)) p q) : Air' g p q := by
  rw [rs_comp] at h
  have w1 := wf_comp hn (wf_wr hn) (wf_opt (wf_pl (g := g)))
  have w2 := wf_comp hn w1 (wf_wr hn)
  obtain ⟨c, h3, h4⟩ := (hs_comp hn w2 (wf_srr hn) p q).1 h
  obtain ⟨b, h2, h5⟩ := (hs_comp hn w1 (wf_wr hn) p c).1 h3
  obtain ⟨a, h1, h6⟩ := (hs_comp hn (wf_wr hn) (wf_opt wf_pl) p b).1 h2
  obtain ⟨rfl, _⟩ := hs_knd hn h1
  obtain ⟨rfl, _⟩ := hs_knd hn h5
  have k1 : Air' g p b := by
    rcases (hs_opt wf_pl p b).1 h6 with h | ⟨rfl, _⟩
    · exact Air'.one (.inl ((hs_inter (wf_LG g 0) (wf_LG g 5) p b).1 h).1)
    · exact Air'.refl g _
  have k2 : Air' g b q := by
    rcases (hs_opt (wf_plus (wf_rr hn)) b q).1 h4 with h | ⟨rfl, _⟩
    · have h := (hs_plus (wf_rr hn) b q).1 h
      have key : ∀ {x y : Nat}, TransGen (hs (rrL (LG g))) x y → Air' g x y := by
        intro x y hxy
        induction hxy with
        | single h1 =>
          obtain ⟨m, a1, a2⟩ := (hs_comp hn (wf_LG g 1) (wf_LG g 4) _ _).1 h1
          exact (Air'.one (.inr a1)).trans (Air'.one (.inl (rmw_air hw a2)))
        | tail _ h1 ih =>
          obtain ⟨m, a1, a2⟩ := (hs_comp hn (wf_LG g 1) (wf_LG g 4) _ _).1 h1
          exact ih.trans ((Air'.one (.inr a1)).trans (Air'.one (.inl (rmw_air hw a2))))
      exact key h
    · exact Air'.refl g _
  exact k1.trans k2
theorem sw_air (hn : g.evs.length ≤ 256) (hw : Wf g false) (h : hs (swL g (LG g)) p q) : TransGen (Air g) p q := by
  obtain ⟨a, b, c, d, e, h1, h2, h3, h4, _, h5, h6⟩ := sw_parts hn h
  obtain ⟨rfl, _⟩ := hs_rel hn h1
  obtain ⟨rfl, _⟩ := hs_acq hn h6
  have k1 : Air' g p b := by
    rcases (hs_opt (wf_fp hn) p b).1 h2 with h | ⟨rfl, _⟩
    · obtain ⟨m, a1, a2⟩ := (hs_comp hn (wf_idn hn _) (wf_LG g 0) p b).1 h
      obtain ⟨rfl, _⟩ := hs_knd hn a1
      exact Air'.one (.inl a2)
    · exact Air'.refl g _
  have k2 : Air' g d e := by
    rcases (hs_opt (wf_pf hn) d e).1 h5 with h | ⟨rfl, _⟩
    · obtain ⟨m, a1, a2⟩ := (hs_comp hn (wf_LG g 0) (wf_idn hn _) d e).1 h
      obtain ⟨rfl, _⟩ := hs_knd hn a2
      exact Air'.one (.inl a1)
    · exact Air'.refl g _
  have k3 := k1.trans (rs_air hn hw h3)
  have k4 : TransGen (Air g) p d := by
    rcases k3 with rfl | k3
    · exact .single (.inr h4)
    · exact .tail k3 (.inr h4)
  rcases k2 with rfl | k2
  · exact k4
  · exact k4.trans k2
theorem cyc_nil {n : Nat} {L : List Nat} (hn : n ≤ 256) (hw : WF n L) (h : CycOK L []) : ∀ p, ¬ TransGen (hs L) p p := by
  intro p hp
  rcases h with ⟨e, _⟩ | ⟨s, tl, ly, _, _, e⟩
  · have hl := (hs_plus hw p p).2 hp
    have hpn := trans_low hw hp
    have : p ∈ bitsOf (loopsL (plusL L)) := mem_bitsOf.2 ⟨by omega, by
      unfold loopsL
      rw [loops_bit]
      exact ⟨by rw [plusL_length, hw.len]; exact hpn, hl⟩⟩
    rw [e] at this
    cases this
  · cases e
theorem all_air (hn : g.evs.length ≤ 256) (hw : Wf g false) (h : CycOK (airL g) []) : (loopsL (plusL (unionL [LG g 0, swL g (LG g), LG g 1])) == 0) = true := by
  have wa : WF g.evs.length (airL g) := wf_union (wf_LG g 0) (wf_LG g 1)
  have wu := wf_union3 (wf_LG g 0) (wf_sw hn) (wf_LG g 1)
  have hno := cyc_nil hn wa h
  rw [beq_iff_eq, loops_zero]
  intro p hp
  rw [hs_plus wu] at hp
  refine hno p ?_
  have back : ∀ {x y : Nat}, TransGen (Air g) x y → TransGen (hs (airL g)) x y := fun h => trans_mono (fun a b k => (hs_union (wf_LG g 0) (wf_LG g 1) a b).2 k) h
  refine back ?_
  have key : ∀ {x y : Nat}, TransGen (hs (unionL [LG g 0, swL g (LG g), LG g 1])) x y → TransGen (Air g) x y := by
    intro x y hxy
    have one : ∀ {a b : Nat}, hs (unionL [LG g 0, swL g (LG g), LG g 1]) a b → TransGen (Air g) a b := by
      intro a b hab
      rcases (hs_union3 (wf_LG g 0) (wf_sw hn) (wf_LG g 1) a b).1 hab with h | h | h
      · exact .single (.inl h)
      · exact sw_air hn hw h
      · exact .single (.inr h)
    induction hxy with
    | single h1 => exact one h1
    | tail _ h1 ih => exact ih.trans (one h1)
  exact key hp
end
theorem inco_nil {H E : List Nat} (h : incoL H E = []) : (∀ a, a < H.length → hasP H ((a : Nat) : Int) ((a : Nat) : Int) = false) ∧ ∀ a b, a < H.length → b < H.length → hasP H ((a : Nat) : Int) ((b : Nat) : Int) = true → hasP E ((b : Nat) : Int) ((a : Nat) : Int) = false := by
  have all : ∀ (f : Nat → List Int) (k : Nat), fstN f k = [] → ∀ a, a < k → f a = [] := by
    intro f k
    induction k with
    | zero => intro _ a ha; omega
    | succ k ih =>
      intro h a ha
      rw [fstN] at h
      by_cases e : fstN f k = []
      · rw [e] at h
        simp at h
        by_cases ea : a = k
        · rw [ea]; exact h
        · exact ih e a (by omega)
      · cases hf : fstN f k with
        | nil => exact absurd hf e
        | cons x t => rw [hf] at h; simp at h
  have h1 := all _ _ h
  have self : ∀ a, a < H.length → hasP H ((a : Nat) : Int) ((a : Nat) : Int) = false := fun a ha => by
    have := h1 a ha
    unfold incoA at this
    cases e : hasP H ((a : Nat) : Int) ((a : Nat) : Int)
    · rfl
    · rw [e] at this; simp at this
  refine ⟨self, fun a b ha hb hab => ?_⟩
  have h2 := h1 a ha
  unfold incoA at h2
  rw [self a ha] at h2
  have h3 := all _ _ (by simpa using h2) b hb
  unfold incoB at h3
  rw [hab] at h3
  cases e : hasP E ((b : Nat) : Int) ((a : Nat) : Int)
  · rfl
  · rw [e] at h3; simp at h3
theorem hasP_hs {n : Nat} {L : List Nat} (hw : WF n L) {a b : Nat} : hasP L ((a : Nat) : Int) ((b : Nat) : Int) = true ↔ hs L a b := by
  constructor
  · intro h
    unfold hasP at h
    simp only [Bool.and_eq_true] at h
    simpa [hs] using h.2.2
  · intro h
    have ha := hs_left h
    have hb := hw.low _ _ h
    rw [← hw.len] at hb
    unfold hasP inR
    unfold hs at h
    simp [h, ha, hb]
end Go.Proofs.YtjhhimjnoljojaaGreatDoor
