/- What each clause of arm says, in words. (Printed by arm_m.py.) -/
import Derived.Test.YtmmadkghojoniaaGreatDoorJ25
import Derived.Test.YtmmadkghojoniaaGreatDoorGLawM
namespace Go.Proofs.YtmmadkghojoniaaGreatDoor
open Go.RowKit Go.Shelf Sx Relation
theorem row_bit (n : Nat) (l : List Bool) (p : Nat) : (rowOfL n l).testBit p = true ↔ p < n ∧ l.getD p false = true := by
  unfold rowOfL
  rw [testBit_rowOfK, Bool.and_eq_true, decide_eq_true_eq]
  constructor
  · exact fun h => ⟨by omega, h.2⟩
  · rintro ⟨h1, h2⟩
    refine ⟨?_, h2⟩
    have : p < l.length := by
      apply Nat.lt_of_not_le
      intro hle
      rw [List.getD_eq_getElem?_getD, List.getElem?_eq_none hle] at h2
      cases h2
    omega
theorem row_mem {n : Nat} (hn : n ≤ 256) (l : List Bool) (p : Nat) : p ∈ bitsOf (rowOfL n l) ↔ p < n ∧ l.getD p false = true := by
  rw [mem_bitsOf, row_bit]
  exact ⟨fun h => h.2, fun h => ⟨by omega, h⟩⟩
theorem identIn_len : ∀ (l : List Nat) (X : List Nat), (identIn X l).length = X.length
  | [], _ => rfl
  | q :: l, X => by
    show (identIn (putP X q q true) l).length = _
    rw [identIn_len l, putP_len]
theorem hs_identIn : ∀ (l : List Nat) (X : List Nat), (∀ q ∈ l, q < X.length) → ∀ a b, hs (identIn X l) a b ↔ hs X a b ∨ (a = b ∧ a ∈ l)
  | [], X, _, a, b => by simp [identIn]
  | q :: l, X, hq, a, b => by
    show hs (identIn (putP X q q true) l) a b ↔ _
    rw [hs_identIn l _ (fun r hr => by rw [putP_len]; exact hq r (List.mem_cons_of_mem _ hr)), hs_put (hq q (by simp)) (hq q (by simp))]
    constructor
    · rintro ((h | ⟨rfl, rfl⟩) | ⟨rfl, h⟩)
      · exact Or.inl h
      · exact Or.inr ⟨rfl, by simp⟩
      · exact Or.inr ⟨rfl, List.mem_cons_of_mem _ h⟩
    · rintro (h | ⟨rfl, h⟩)
      · exact Or.inl (Or.inl h)
      · rcases List.mem_cons.1 h with rfl | h
        · exact Or.inl (Or.inr ⟨rfl, rfl⟩)
        · exact Or.inr ⟨rfl, h⟩
theorem hs_can {n : Nat} {F : Nat → Nat → Bool} {p q : Nat} (h : hs (canL n F) p q) : p < n ∧ q < n ∧ F p q = true := by
  have hp := hs_left h
  rw [canL_length] at hp
  have h2 := h
  unfold hs at h2
  rw [gr_canL n F hp, testBit_rowK, Bool.and_eq_true, decide_eq_true_iff] at h2
  exact ⟨hp, h2.1, h2.2⟩
theorem hs_idn {n : Nat} (hn : n ≤ 256) {l : List Bool} {p q : Nat} (h : hs (identL ((n : Nat) : Int) l) p q) : p = q ∧ l.getD p false = true := by
  unfold identL at h
  rw [clamp_small hn] at h
  rw [hs_identIn _ _ (fun q hq => by rw [List.length_replicate]; exact ((row_mem hn l q).1 hq).1), row_mem hn] at h
  rcases h with h | h
  · exact absurd h (hs_zero _ _ _)
  · exact ⟨h.1, h.2.2⟩
theorem wf_idn {n : Nat} (hn : n ≤ 256) (l : List Bool) : WF n (identL ((n : Nat) : Int) l) := by
  refine ⟨by unfold identL; rw [identIn_len, List.length_replicate, clamp_small hn], fun p q h => ?_⟩
  have hp := hs_left h
  have := hs_idn hn h
  unfold identL at hp
  rw [identIn_len, List.length_replicate, clamp_small hn] at hp
  omega
theorem tru_at {P : Ev → Bool} {evs : List Ev} {p : Nat} (h : (truL P evs).getD p false = true) : p < evs.length ∧ P (evs.getD p Ev.zero) = true := by
  unfold truL at h
  rw [List.getD_eq_getElem?_getD, List.getElem?_map] at h
  cases he : evs[p]? with
  | none => rw [he] at h; simp at h
  | some e =>
    rw [he] at h
    simp at h
    refine ⟨(List.getElem?_eq_some_iff.1 he).1, ?_⟩
    rw [List.getD_eq_getElem?_getD, he]
    exact h
section
variable {g : Gr} {p q : Nat}
theorem hs_knd (hn : g.evs.length ≤ 256) {x : Int} (h : hs (identL ((g.evs.length : Nat) : Int) (kndL g x)) p q) : p = q ∧ p < g.evs.length ∧ (g.ev p).k = x := by
  obtain ⟨h1, h2⟩ := hs_idn hn h
  have h3 := tru_at h2
  exact ⟨h1, h3.1, by have := h3.2; exact beq_iff_eq.1 this⟩
theorem hs_md (hn : g.evs.length ≤ 256) {ms : List Int} (h : hs (identL ((g.evs.length : Nat) : Int) (mdL g ms)) p q) : p = q ∧ p < g.evs.length ∧ (g.ev p).m ∈ ms := by
  obtain ⟨h1, h2⟩ := hs_idn hn h
  have h3 := tru_at h2
  exact ⟨h1, h3.1, by have := h3.2; exact List.contains_iff_mem.1 this⟩
theorem wf_LG (g : Gr) (i : Nat) : WF g.evs.length (LG g i) := by
  match i with
  | 0 => exact canL_wf _ _
  | 1 => exact canL_wf _ _
  | 2 => exact canL_wf _ _
  | 3 => exact canL_wf _ _
  | 4 => exact canL_wf _ _
  | 5 => exact canL_wf _ _
  | 6 => exact canL_wf _ _
  | 7 => exact canL_wf _ _
  | 8 => exact canL_wf _ _
  | n + 9 => exact canL_wf _ _
end
theorem cyc_nil {n : Nat} {L : List Nat} (hn : n ≤ 256) (hw : WF n L) (h : CycOK L []) : ∀ p, ¬ TransGen (hs L) p p := by
  intro p hp
  rcases h with ⟨e, _⟩ | ⟨s, tl, ly, _, _, e⟩
  · have hl := (hs_plus hw p p).2 hp
    have hpn := trans_low hw hp
    have : p ∈ bitsOf (loopsL (plusL L)) := mem_bitsOf.2 ⟨by omega, by
      unfold loopsL
      rw [loops_bit]
      exact ⟨by rw [plusL_length, hw.len]; exact hpn, hl⟩⟩
    rw [e] at this
    cases this
  · cases e
theorem hasP_hs {n : Nat} {L : List Nat} (hw : WF n L) {a b : Nat} : hasP L ((a : Nat) : Int) ((b : Nat) : Int) = true ↔ hs L a b := by
  constructor
  · intro h
    unfold hasP at h
    simp only [Bool.and_eq_true] at h
    simpa [hs] using h.2.2
  · intro h
    have ha := hs_left h
    have hb := hw.low _ _ h
    rw [← hw.len] at hb
    unfold hasP inR
    unfold hs at h
    simp [h, ha, hb]
theorem hs_idn_iff {n : Nat} (hn : n ≤ 256) {l : List Bool} {p q : Nat} : hs (identL ((n : Nat) : Int) l) p q ↔ p = q ∧ p < n ∧ l.getD p false = true := by
  unfold identL
  rw [clamp_small hn, hs_identIn _ _ (fun q hq => by rw [List.length_replicate]; exact ((row_mem hn l q).1 hq).1), row_mem hn]
  constructor
  · rintro (h | h)
    · exact absurd h (hs_zero _ _ _)
    · exact h
  · exact .inr
theorem imgIn_at : ∀ (l : List Nat) (X : List Bool) (q : Nat), q < X.length → (imgIn X l)[q]? = some (decide (q ∈ l) || X.getD q false)
  | [], X, q, hq => by simp [imgIn, hq]
  | x :: l, X, q, hq => by
    show (imgIn (X.set x true) l)[q]? = _
    rw [imgIn_at l _ q (by rw [List.length_set]; exact hq)]
    congr 1
    rw [List.getD_eq_getElem?_getD, List.getElem?_set]
    by_cases e : x = q
    · subst e; simp [hq]
    · rw [if_neg e]
      have e' : ¬ q = x := fun h => e h.symm
      simp [e', hq]
theorem img_iff {n : Nat} {L : List Nat} (hn : n ≤ 256) (hL : WF n L) {l : List Bool} {q : Nat} : (imgL L l).getD q false = true ↔ q < n ∧ ∃ m, l.getD m false = true ∧ hs L m q := by
  unfold imgL
  have key : ∀ q, q ∈ bitsOf (joinRows L (bitsOf (rowOfL L.length l))) ↔ ∃ m, l.getD m false = true ∧ hs L m q := fun q => by
    rw [mem_bitsOf]
    unfold joinRows
    rw [join_bits]
    constructor
    · rintro ⟨_, h | ⟨p, hp, h⟩⟩
      · simp at h
      · rw [hL.len, row_mem hn] at hp
        exact ⟨p, hp.2, h⟩
    · rintro ⟨m, hm, h⟩
      refine ⟨Nat.lt_of_lt_of_le (hL.low _ _ h) hn, .inr ⟨m, ?_, h⟩⟩
      rw [hL.len, row_mem hn]
      exact ⟨by have := hs_left h; rw [hL.len] at this; exact this, hm⟩
  by_cases hq : q < n
  · rw [List.getD_eq_getElem?_getD, imgIn_at _ _ q (by rw [List.length_replicate, hL.len]; exact hq), Option.getD_some, Bool.or_eq_true, decide_eq_true_iff, key]
    constructor
    · rintro (h | h)
      · exact ⟨hq, h⟩
      · simp [List.getD_eq_getElem?_getD, hL.len, hq] at h
    · exact fun h => .inl h.2
  · constructor
    · intro h
      rw [List.getD_eq_getElem?_getD, List.getElem?_eq_none (by rw [imgIn_length, List.length_replicate, hL.len]; omega)] at h
      cases h
    · exact fun h => absurd h.1 hq
theorem uniF_len : ∀ (Ls : List (List Nat)) (X : List Nat), (Ls.foldl (fun A L => uniK A L L.length) X).length = X.length
  | [], _ => rfl
  | L :: Ls, X => by rw [List.foldl_cons, uniF_len Ls, uniK_length]
theorem hs_uniN {n : Nat} (p q : Nat) : ∀ (Ls : List (List Nat)) (X : List Nat), X.length = n → (∀ L ∈ Ls, WF n L) → (hs (Ls.foldl (fun A L => uniK A L L.length) X) p q ↔ hs X p q ∨ ∃ L ∈ Ls, hs L p q)
  | [], X, _, _ => by simp
  | L :: Ls, X, hX, h => by
    rw [List.foldl_cons, hs_uniN p q Ls _ (by rw [uniK_length, hX]) (fun M hM => h M (List.mem_cons_of_mem _ hM)), hs_uni hX (h L List.mem_cons_self)]
    simp [or_assoc]
theorem maxN {n : Nat} : ∀ (Ls : List (List Nat)) (k : Nat), k ≤ n → (∀ L ∈ Ls, WF n L) → Ls ≠ [] → Ls.foldl (fun n L => max n L.length) k = n
  | [], _, _, _, h => absurd rfl h
  | [L], k, hk, h, _ => by rw [List.foldl_cons, (h L List.mem_cons_self).len]; simp only [List.foldl]; omega
  | L :: M :: Ls, k, hk, h, _ => by
    rw [List.foldl_cons]
    exact maxN (M :: Ls) _ (by rw [(h L List.mem_cons_self).len]; omega) (fun A hA => h A (List.mem_cons_of_mem _ hA)) (by simp)
theorem hs_unN {n : Nat} {Ls : List (List Nat)} (h : ∀ L ∈ Ls, WF n L) (hne : Ls ≠ []) (p q : Nat) : hs (unionL Ls) p q ↔ ∃ L ∈ Ls, hs L p q := by
  unfold unionL
  rw [hs_uniN (n := n) p q Ls _ (by rw [List.length_replicate]; exact maxN Ls 0 (Nat.zero_le _) h hne) h]
  constructor
  · rintro (h | h)
    · exact absurd h (hs_zero _ _ _)
    · exact h
  · exact .inr
theorem wf_unN {n : Nat} {Ls : List (List Nat)} (h : ∀ L ∈ Ls, WF n L) (hne : Ls ≠ []) : WF n (unionL Ls) := by
  refine ⟨by unfold unionL; rw [uniF_len, List.length_replicate]; exact maxN Ls 0 (Nat.zero_le _) h hne, fun p q k => ?_⟩
  obtain ⟨L, hL, k⟩ := (hs_unN h hne p q).1 k
  exact (h L hL).low _ _ k
section
variable (g : Gr)
abbrev Rg (k p q : Nat) : Prop := hs (LG g k) p q
def ClP : Nat → Nat → Nat → Prop
  | 0, p, q => Rg g 1 p q ∧ Rg g 6 p q
  | 1, p, q => Rg g 2 p q ∧ Rg g 6 p q
  | 2, p, q => Rg g 3 p q ∧ Rg g 6 p q
  | 3, p, q => Rg g 7 p q
  | 4, p, q => Rg g 8 p q
  | 5, p, q => Rg g 9 p q ∧ (g.ev q).k = 2
  | 6, p, q => ∃ m, Rg g 7 p m ∧ Rg g 0 m q ∧ (g.ev q).k = 2
  | 7, p, q => ∃ m, (Rg g 9 p m ∨ Rg g 8 p m) ∧ Rg g 2 m q ∧ ¬ Rg g 6 m q
  | 8, p, q => ∃ m, (Rg g 7 p m ∨ Rg g 8 p m) ∧ Rg g 1 m q ∧ ¬ Rg g 6 m q
  | 9, p, q => Rg g 4 p q
  | 10, p, q => (∃ m, (g.ev m).k = 1 ∧ Rg g 4 m p) ∧ (Rg g 1 p q ∧ ¬ Rg g 6 p q) ∧ (g.ev q).m ∈ ([12, 16] : List Int)
  | 11, p, q => ∃ m, Rg g 0 p m ∧ (g.ev m).m ∈ ([15] : List Int) ∧ Rg g 0 m q
  | 12, p, q => (g.ev p).k = 1 ∧ ∃ m, Rg g 0 p m ∧ (g.ev m).m ∈ ([14] : List Int) ∧ Rg g 0 m q
  | 13, p, q => (g.ev p).m ∈ ([13] : List Int) ∧ Rg g 0 p q ∧ (g.ev q).m ∈ ([12] : List Int)
  | 14, p, q => (g.ev p).m ∈ ([12, 16] : List Int) ∧ Rg g 0 p q
  | 15, p, q => Rg g 0 p q ∧ (g.ev q).m ∈ ([13] : List Int)
  | _, p, q => ∃ m, (Rg g 0 p m ∧ (g.ev m).m ∈ ([13] : List Int)) ∧ Rg g 2 m q ∧ ¬ Rg g 6 m q
variable {g} {p q : Nat}
theorem hs_kndI (hn : g.evs.length ≤ 256) {x : Int} (hp : p < g.evs.length) : hs (identL ((g.evs.length : Nat) : Int) (kndL g x)) p q ↔ p = q ∧ (g.ev p).k = x := by
  constructor
  · exact fun h => ⟨(hs_knd hn h).1, (hs_knd hn h).2.2⟩
  · rintro ⟨rfl, h⟩
    refine (hs_idn_iff hn).2 ⟨rfl, hp, ?_⟩
    unfold kndL truL
    rw [List.getD_eq_getElem?_getD, List.getElem?_map, Gr.ev_at hp]
    simpa using h
theorem hs_mdI (hn : g.evs.length ≤ 256) {ms : List Int} (hp : p < g.evs.length) : hs (identL ((g.evs.length : Nat) : Int) (mdL g ms)) p q ↔ p = q ∧ (g.ev p).m ∈ ms := by
  constructor
  · exact fun h => ⟨(hs_md hn h).1, (hs_md hn h).2.2⟩
  · rintro ⟨rfl, h⟩
    refine (hs_idn_iff hn).2 ⟨rfl, hp, ?_⟩
    unfold mdL truL
    rw [List.getD_eq_getElem?_getD, List.getElem?_map, Gr.ev_at hp]
    simpa using h
theorem Rg.l {k : Nat} (h : Rg g k p q) : p < g.evs.length := by have := hs_left h; rw [(wf_LG g k).len] at this; exact this
theorem Rg.r {k : Nat} (h : Rg g k p q) : q < g.evs.length := (wf_LG g k).low _ _ h
theorem cl12 (g : Gr) : clL g (LG g) 12 = compL (compL (compL (identL ((g.evs.length : Nat) : Int) (kndL g 1)) (LG g 0)) (identL ((g.evs.length : Nat) : Int) (mdL g [14]))) (LG g 0) := by
  simp only [clL, chainL, List.foldl, rdI, mdI]
set_option maxHeartbeats 8000000 in
theorem wf_cl (hn : g.evs.length ≤ 256) (i : Nat) (hi : i < 17) : WF g.evs.length (clL g (LG g) i) := by
  have L := wf_LG g
  have I : ∀ l, WF g.evs.length (identL ((g.evs.length : Nat) : Int) l) := fun l => wf_idn hn l
  match i, hi with
  | 0, _ => exact wf_inter (L 1) (L 6)
  | 1, _ => exact wf_inter (L 2) (L 6)
  | 2, _ => exact wf_inter (L 3) (L 6)
  | 3, _ => exact L 7
  | 4, _ => exact L 8
  | 5, _ => exact wf_comp hn (L 9) (I _)
  | 6, _ => exact wf_comp hn (wf_comp hn (L 7) (L 0)) (I _)
  | 7, _ => exact wf_comp hn (wf_union (L 9) (L 8)) (wf_minus (L 2) (L 6))
  | 8, _ => exact wf_comp hn (wf_union (L 7) (L 8)) (wf_minus (L 1) (L 6))
  | 9, _ => exact L 4
  | 10, _ => exact wf_comp hn (wf_comp hn (I _) (wf_minus (L 1) (L 6))) (I _)
  | 11, _ => exact wf_comp hn (wf_comp hn (L 0) (I _)) (L 0)
  | 12, _ => rw [cl12]; exact wf_comp hn (wf_comp hn (wf_comp hn (I _) (L 0)) (I _)) (L 0)
  | 13, _ => exact wf_comp hn (wf_comp hn (I _) (L 0)) (I _)
  | 14, _ => exact wf_comp hn (I _) (L 0)
  | 15, _ => exact wf_comp hn (L 0) (I _)
  | 16, _ => exact wf_comp hn (wf_comp hn (L 0) (I _)) (wf_minus (L 2) (L 6))
  | n + 17, h => omega
set_option maxHeartbeats 8000000 in
theorem cl_iff (hn : g.evs.length ≤ 256) {i : Nat} (hi : i < 17) (p q : Nat) : hs (clL g (LG g) i) p q ↔ ClP g i p q := by
  have L := wf_LG g
  have I : ∀ l, WF g.evs.length (identL ((g.evs.length : Nat) : Int) l) := fun l => wf_idn hn l
  match i, hi with
  | 0, _ => exact hs_inter (L 1) (L 6) p q
  | 1, _ => exact hs_inter (L 2) (L 6) p q
  | 2, _ => exact hs_inter (L 3) (L 6) p q
  | 3, _ => exact Iff.rfl
  | 4, _ => exact Iff.rfl
  | 5, _ =>
    refine (hs_comp hn (L 9) (I _) p q).trans ⟨fun ⟨m, h1, h2⟩ => ?_, fun ⟨h1, h2⟩ => ⟨q, h1, (hs_kndI hn (Rg.r h1)).2 ⟨rfl, h2⟩⟩⟩
    obtain ⟨rfl, _, h3⟩ := hs_knd hn h2
    exact ⟨h1, h3⟩
  | 6, _ =>
    refine (hs_comp hn (wf_comp hn (L 7) (L 0)) (I _) p q).trans ⟨fun ⟨m, h1, h2⟩ => ?_, fun ⟨m, h1, h2, h3⟩ => ⟨q, (hs_comp hn (L 7) (L 0) p q).2 ⟨m, h1, h2⟩, (hs_kndI hn (Rg.r h2)).2 ⟨rfl, h3⟩⟩⟩
    obtain ⟨rfl, _, h3⟩ := hs_knd hn h2
    obtain ⟨x, h4, h5⟩ := (hs_comp hn (L 7) (L 0) p m).1 h1
    exact ⟨x, h4, h5, h3⟩
  | 7, _ =>
    refine (hs_comp hn (wf_union (L 9) (L 8)) (wf_minus (L 2) (L 6)) p q).trans ⟨fun ⟨m, h1, h2⟩ => ⟨m, (hs_union (L 9) (L 8) p m).1 h1, (hs_minus (L 2) (L 6) m q).1 h2⟩, fun ⟨m, h1, h2⟩ => ⟨m, (hs_union (L 9) (L 8) p m).2 h1, (hs_minus (L 2) (L 6) m q).2 h2⟩⟩
  | 8, _ =>
    refine (hs_comp hn (wf_union (L 7) (L 8)) (wf_minus (L 1) (L 6)) p q).trans ⟨fun ⟨m, h1, h2⟩ => ⟨m, (hs_union (L 7) (L 8) p m).1 h1, (hs_minus (L 1) (L 6) m q).1 h2⟩, fun ⟨m, h1, h2⟩ => ⟨m, (hs_union (L 7) (L 8) p m).2 h1, (hs_minus (L 1) (L 6) m q).2 h2⟩⟩
  | 9, _ => exact Iff.rfl
  | 10, _ =>
    have W1 := wf_minus (L 1) (L 6)
    refine (hs_comp hn (wf_comp hn (I _) W1) (I _) p q).trans ⟨fun ⟨m, h1, h2⟩ => ?_, fun ⟨⟨x, h0, h1⟩, h2, h3⟩ => ⟨q, (hs_comp hn (I _) W1 p q).2 ⟨p, (hs_idn_iff hn).2 ⟨rfl, Rg.l h2.1, (img_iff hn (L 4)).2 ⟨Rg.r h1, x, ?_, h1⟩⟩, (hs_minus (L 1) (L 6) p q).2 h2⟩, (hs_mdI hn (Rg.r h2.1)).2 ⟨rfl, h3⟩⟩⟩
    · obtain ⟨rfl, _, h3⟩ := hs_md hn h2
      obtain ⟨x, h4, h5⟩ := (hs_comp hn (I _) W1 p m).1 h1
      obtain ⟨rfl, h6⟩ := hs_idn hn h4
      obtain ⟨_, y, h7, h8⟩ := (img_iff hn (L 4)).1 h6
      exact ⟨⟨y, beq_iff_eq.1 (tru_at h7).2, h8⟩, (hs_minus (L 1) (L 6) p m).1 h5, h3⟩
    · unfold kndL truL
      rw [List.getD_eq_getElem?_getD, List.getElem?_map, Gr.ev_at (Rg.l h1)]
      simpa using h0
  | 11, _ =>
    refine (hs_comp hn (wf_comp hn (L 0) (I _)) (L 0) p q).trans ⟨fun ⟨m, h1, h2⟩ => ?_, fun ⟨m, h1, h2, h3⟩ => ⟨m, (hs_comp hn (L 0) (I _) p m).2 ⟨m, h1, (hs_mdI hn (Rg.r h1)).2 ⟨rfl, h2⟩⟩, h3⟩⟩
    obtain ⟨x, h4, h5⟩ := (hs_comp hn (L 0) (I _) p m).1 h1
    obtain ⟨rfl, _, h6⟩ := hs_md hn h5
    exact ⟨x, h4, h6, h2⟩
  | 12, _ =>
    have W1 := wf_comp hn (I (kndL g 1)) (L 0)
    rw [cl12]
    refine (hs_comp hn (wf_comp hn W1 (I _)) (L 0) p q).trans ⟨fun ⟨m, h1, h2⟩ => ?_, fun ⟨h0, m, h1, h2, h3⟩ => ⟨m, (hs_comp hn W1 (I _) p m).2 ⟨m, (hs_comp hn (I _) (L 0) p m).2 ⟨p, (hs_kndI hn (Rg.l h1)).2 ⟨rfl, h0⟩, h1⟩, (hs_mdI hn (Rg.r h1)).2 ⟨rfl, h2⟩⟩, h3⟩⟩
    obtain ⟨x, h4, h5⟩ := (hs_comp hn W1 (I _) p m).1 h1
    obtain ⟨rfl, _, h6⟩ := hs_md hn h5
    obtain ⟨y, h7, h8⟩ := (hs_comp hn (I _) (L 0) p x).1 h4
    obtain ⟨rfl, _, h9⟩ := hs_knd hn h7
    exact ⟨h9, x, h8, h6, h2⟩
  | 13, _ =>
    refine (hs_comp hn (wf_comp hn (I _) (L 0)) (I _) p q).trans ⟨fun ⟨m, h1, h2⟩ => ?_, fun ⟨h1, h2, h3⟩ => ⟨q, (hs_comp hn (I _) (L 0) p q).2 ⟨p, (hs_mdI hn (Rg.l h2)).2 ⟨rfl, h1⟩, h2⟩, (hs_mdI hn (Rg.r h2)).2 ⟨rfl, h3⟩⟩⟩
    obtain ⟨rfl, _, h3⟩ := hs_md hn h2
    obtain ⟨x, h4, h5⟩ := (hs_comp hn (I _) (L 0) p m).1 h1
    obtain ⟨rfl, _, h6⟩ := hs_md hn h4
    exact ⟨h6, h5, h3⟩
  | 14, _ =>
    refine (hs_comp hn (I _) (L 0) p q).trans ⟨fun ⟨m, h1, h2⟩ => ?_, fun ⟨h1, h2⟩ => ⟨p, (hs_mdI hn (Rg.l h2)).2 ⟨rfl, h1⟩, h2⟩⟩
    obtain ⟨rfl, _, h3⟩ := hs_md hn h1
    exact ⟨h3, h2⟩
  | 15, _ =>
    refine (hs_comp hn (L 0) (I _) p q).trans ⟨fun ⟨m, h1, h2⟩ => ?_, fun ⟨h1, h2⟩ => ⟨q, h1, (hs_mdI hn (Rg.r h1)).2 ⟨rfl, h2⟩⟩⟩
    obtain ⟨rfl, _, h3⟩ := hs_md hn h2
    exact ⟨h1, h3⟩
  | 16, _ =>
    refine (hs_comp hn (wf_comp hn (L 0) (I _)) (wf_minus (L 2) (L 6)) p q).trans ⟨fun ⟨m, h1, h2⟩ => ?_, fun ⟨m, ⟨h1, h2⟩, h3⟩ => ⟨m, (hs_comp hn (L 0) (I _) p m).2 ⟨m, h1, (hs_mdI hn (Rg.r h1)).2 ⟨rfl, h2⟩⟩, (hs_minus (L 2) (L 6) m q).2 h3⟩⟩
    obtain ⟨x, h4, h5⟩ := (hs_comp hn (L 0) (I _) p m).1 h1
    obtain ⟨rfl, _, h6⟩ := hs_md hn h5
    exact ⟨x, ⟨h4, h6⟩, (hs_minus (L 2) (L 6) x q).1 h2⟩
  | n + 17, h => omega
set_option maxHeartbeats 8000000 in
theorem obs_iff (hn : g.evs.length ≤ 256) : hs (obsL g (LG g)) p q ↔ ∃ i, 0 ≤ i ∧ i < 3 ∧ ClP g i p q := by
  unfold obsL
  rw [hs_unN (n := g.evs.length) (by intro L h; simp only [List.mem_cons, List.not_mem_nil, or_false] at h; rcases h with rfl | rfl | rfl <;> exact wf_cl hn _ (by decide)) (List.cons_ne_nil _ _)]
  simp only [List.mem_cons, List.not_mem_nil, or_false, exists_eq_or_imp, exists_eq_left]
  rw [cl_iff hn (show (0 : Nat) < 17 by decide), cl_iff hn (show (1 : Nat) < 17 by decide), cl_iff hn (show (2 : Nat) < 17 by decide)]
  constructor
  · rintro (h | h | h)
    · exact ⟨0, by decide, by decide, h⟩
    · exact ⟨1, by decide, by decide, h⟩
    · exact ⟨2, by decide, by decide, h⟩
  · rintro ⟨i, h1, h2, h⟩
    have e : i = 0 ∨ i = 1 ∨ i = 2 := by omega
    rcases e with rfl | rfl | rfl
    · exact .inl h
    · exact .inr (.inl h)
    · exact .inr (.inr (h))
theorem wf_obs (hn : g.evs.length ≤ 256) : WF g.evs.length (obsL g (LG g)) := wf_unN (by intro L h; simp only [List.mem_cons, List.not_mem_nil, or_false] at h; rcases h with rfl | rfl | rfl <;> exact wf_cl hn _ (by decide)) (List.cons_ne_nil _ _)
set_option maxHeartbeats 8000000 in
theorem dob_iff (hn : g.evs.length ≤ 256) : hs (dobL g (LG g)) p q ↔ ∃ i, 3 ≤ i ∧ i < 9 ∧ ClP g i p q := by
  unfold dobL
  rw [hs_unN (n := g.evs.length) (by intro L h; simp only [List.mem_cons, List.not_mem_nil, or_false] at h; rcases h with rfl | rfl | rfl | rfl | rfl | rfl <;> exact wf_cl hn _ (by decide)) (List.cons_ne_nil _ _)]
  simp only [List.mem_cons, List.not_mem_nil, or_false, exists_eq_or_imp, exists_eq_left]
  rw [cl_iff hn (show (3 : Nat) < 17 by decide), cl_iff hn (show (4 : Nat) < 17 by decide), cl_iff hn (show (5 : Nat) < 17 by decide), cl_iff hn (show (6 : Nat) < 17 by decide), cl_iff hn (show (7 : Nat) < 17 by decide), cl_iff hn (show (8 : Nat) < 17 by decide)]
  constructor
  · rintro (h | h | h | h | h | h)
    · exact ⟨3, by decide, by decide, h⟩
    · exact ⟨4, by decide, by decide, h⟩
    · exact ⟨5, by decide, by decide, h⟩
    · exact ⟨6, by decide, by decide, h⟩
    · exact ⟨7, by decide, by decide, h⟩
    · exact ⟨8, by decide, by decide, h⟩
  · rintro ⟨i, h1, h2, h⟩
    have e : i = 3 ∨ i = 4 ∨ i = 5 ∨ i = 6 ∨ i = 7 ∨ i = 8 := by omega
    rcases e with rfl | rfl | rfl | rfl | rfl | rfl
    · exact .inl h
    · exact .inr (.inl h)
    · exact .inr (.inr (.inl h))
    · exact .inr (.inr (.inr (.inl h)))
    · exact .inr (.inr (.inr (.inr (.inl h))))
    · exact .inr (.inr (.inr (.inr (.inr (h)))))
theorem wf_dob (hn : g.evs.length ≤ 256) : WF g.evs.length (dobL g (LG g)) := wf_unN (by intro L h; simp only [List.mem_cons, List.not_mem_nil, or_false] at h; rcases h with rfl | rfl | rfl | rfl | rfl | rfl <;> exact wf_cl hn _ (by decide)) (List.cons_ne_nil _ _)
set_option maxHeartbeats 8000000 in
theorem aob_iff (hn : g.evs.length ≤ 256) : hs (aobL g (LG g)) p q ↔ ∃ i, 9 ≤ i ∧ i < 11 ∧ ClP g i p q := by
  unfold aobL
  rw [hs_unN (n := g.evs.length) (by intro L h; simp only [List.mem_cons, List.not_mem_nil, or_false] at h; rcases h with rfl | rfl <;> exact wf_cl hn _ (by decide)) (List.cons_ne_nil _ _)]
  simp only [List.mem_cons, List.not_mem_nil, or_false, exists_eq_or_imp, exists_eq_left]
  rw [cl_iff hn (show (9 : Nat) < 17 by decide), cl_iff hn (show (10 : Nat) < 17 by decide)]
  constructor
  · rintro (h | h)
    · exact ⟨9, by decide, by decide, h⟩
    · exact ⟨10, by decide, by decide, h⟩
  · rintro ⟨i, h1, h2, h⟩
    have e : i = 9 ∨ i = 10 := by omega
    rcases e with rfl | rfl
    · exact .inl h
    · exact .inr (h)
theorem wf_aob (hn : g.evs.length ≤ 256) : WF g.evs.length (aobL g (LG g)) := wf_unN (by intro L h; simp only [List.mem_cons, List.not_mem_nil, or_false] at h; rcases h with rfl | rfl <;> exact wf_cl hn _ (by decide)) (List.cons_ne_nil _ _)
set_option maxHeartbeats 8000000 in
theorem bob_iff (hn : g.evs.length ≤ 256) : hs (bobL g (LG g)) p q ↔ ∃ i, 11 ≤ i ∧ i < 17 ∧ ClP g i p q := by
  unfold bobL
  rw [hs_unN (n := g.evs.length) (by intro L h; simp only [List.mem_cons, List.not_mem_nil, or_false] at h; rcases h with rfl | rfl | rfl | rfl | rfl | rfl <;> exact wf_cl hn _ (by decide)) (List.cons_ne_nil _ _)]
  simp only [List.mem_cons, List.not_mem_nil, or_false, exists_eq_or_imp, exists_eq_left]
  rw [cl_iff hn (show (11 : Nat) < 17 by decide), cl_iff hn (show (12 : Nat) < 17 by decide), cl_iff hn (show (13 : Nat) < 17 by decide), cl_iff hn (show (14 : Nat) < 17 by decide), cl_iff hn (show (15 : Nat) < 17 by decide), cl_iff hn (show (16 : Nat) < 17 by decide)]
  constructor
  · rintro (h | h | h | h | h | h)
    · exact ⟨11, by decide, by decide, h⟩
    · exact ⟨12, by decide, by decide, h⟩
    · exact ⟨13, by decide, by decide, h⟩
    · exact ⟨14, by decide, by decide, h⟩
    · exact ⟨15, by decide, by decide, h⟩
    · exact ⟨16, by decide, by decide, h⟩
  · rintro ⟨i, h1, h2, h⟩
    have e : i = 11 ∨ i = 12 ∨ i = 13 ∨ i = 14 ∨ i = 15 ∨ i = 16 := by omega
    rcases e with rfl | rfl | rfl | rfl | rfl | rfl
    · exact .inl h
    · exact .inr (.inl h)
    · exact .inr (.inr (.inl h))
    · exact .inr (.inr (.inr (.inl h)))
    · exact .inr (.inr (.inr (.inr (.inl h))))
    · exact .inr (.inr (.inr (.inr (.inr (h)))))
theorem wf_bob (hn : g.evs.length ≤ 256) : WF g.evs.length (bobL g (LG g)) := wf_unN (by intro L h; simp only [List.mem_cons, List.not_mem_nil, or_false] at h; rcases h with rfl | rfl | rfl | rfl | rfl | rfl <;> exact wf_cl hn _ (by decide)) (List.cons_ne_nil _ _)
theorem wfs_nil (n : Nat) : ∀ L ∈ ([] : List (List Nat)), WF n L := fun L h => by cases h
theorem wfs_cons {n : Nat} {A : List Nat} {Ls : List (List Nat)} (h : WF n A) (k : ∀ L ∈ Ls, WF n L) : ∀ L ∈ A :: Ls, WF n L := fun L hL => by
  rcases List.mem_cons.1 hL with e | hL
  · rw [e]; exact h
  · exact k L hL
theorem ob_wfs (hn : g.evs.length ≤ 256) : ∀ L ∈ [obsL g (LG g), dobL g (LG g), aobL g (LG g), bobL g (LG g)], WF g.evs.length L := wfs_cons (wf_obs hn) (wfs_cons (wf_dob hn) (wfs_cons (wf_aob hn) (wfs_cons (wf_bob hn) (wfs_nil _))))
theorem int_wfs (g : Gr) : ∀ L ∈ [interL (LG g 0) (LG g 5), LG g 1, LG g 2, LG g 3], WF g.evs.length L := wfs_cons (wf_inter (wf_LG g 0) (wf_LG g 5)) (wfs_cons (wf_LG g 1) (wfs_cons (wf_LG g 2) (wfs_cons (wf_LG g 3) (wfs_nil _))))
set_option maxHeartbeats 8000000 in
theorem ob_iff (hn : g.evs.length ≤ 256) : hs (obL g (LG g)) p q ↔ ∃ i, i < 17 ∧ ClP g i p q := by
  unfold obL
  rw [hs_unN (n := g.evs.length) (ob_wfs hn) (List.cons_ne_nil _ _)]
  simp only [List.mem_cons, List.not_mem_nil, or_false, exists_eq_or_imp, exists_eq_left]
  rw [obs_iff hn, dob_iff hn, aob_iff hn, bob_iff hn]
  constructor
  · rintro (⟨i, h1, h2, h⟩ | ⟨i, h1, h2, h⟩ | ⟨i, h1, h2, h⟩ | ⟨i, h1, h2, h⟩) <;> exact ⟨i, by omega, h⟩
  · rintro ⟨i, hi, h⟩
    by_cases h1 : i < 3
    · exact .inl ⟨i, by omega, h1, h⟩
    by_cases h2 : i < 9
    · exact .inr (.inl ⟨i, by omega, h2, h⟩)
    by_cases h3 : i < 11
    · exact .inr (.inr (.inl ⟨i, by omega, h3, h⟩))
    exact .inr (.inr (.inr ⟨i, by omega, hi, h⟩))
theorem wf_ob (hn : g.evs.length ≤ 256) : WF g.evs.length (obL g (LG g)) := wf_unN (ob_wfs hn) (List.cons_ne_nil _ _)
theorem int_iff : hs (intL (LG g)) p q ↔ (Rg g 0 p q ∧ Rg g 5 p q) ∨ Rg g 1 p q ∨ Rg g 2 p q ∨ Rg g 3 p q := by
  unfold intL
  rw [hs_unN (n := g.evs.length) (int_wfs g) (List.cons_ne_nil _ _)]
  simp only [List.mem_cons, List.not_mem_nil, or_false, exists_eq_or_imp, exists_eq_left, hs_inter (wf_LG g 0) (wf_LG g 5)]
theorem wf_int : WF g.evs.length (intL (LG g)) := wf_unN (int_wfs g) (List.cons_ne_nil _ _)
end
end Go.Proofs.YtmmadkghojoniaaGreatDoor
namespace Go.Proofs.YtmmadkghojoniaaGreatDoor
open Go.RowKit Go.Shelf Sx Relation
section
variable {g : Gr} {p q : Nat}
theorem rg_of {k : Nat} {F : Nat → Nat → Bool} (e : LG g k = canL g.evs.length F) : Rg g k p q ↔ p < g.evs.length ∧ q < g.evs.length ∧ F p q = true := by
  unfold Rg
  rw [e]
  constructor
  · exact hs_can
  · rintro ⟨hp, hq, h⟩
    unfold hs
    rw [gr_canL _ _ hp, testBit_rowK, decide_eq_true hq, h]
    rfl
theorem rg0 : Rg g 0 p q ↔ p < g.evs.length ∧ q < g.evs.length ∧ poB g.evs p q = true := rg_of rfl
theorem rg1 : Rg g 1 p q ↔ p < g.evs.length ∧ q < g.evs.length ∧ memB g.rf p q = true := rg_of rfl
theorem rg2 : Rg g 2 p q ↔ p < g.evs.length ∧ q < g.evs.length ∧ coB g p q = true := rg_of rfl
theorem rg4 : Rg g 4 p q ↔ p < g.evs.length ∧ q < g.evs.length ∧ memB g.rmw p q = true := rg_of rfl
theorem rg5 : Rg g 5 p q ↔ p < g.evs.length ∧ q < g.evs.length ∧ sameEv g.evs p q = true := rg_of rfl
theorem rg6 : Rg g 6 p q ↔ p < g.evs.length ∧ q < g.evs.length ∧ extB g.evs p q = true := rg_of rfl
theorem rg7 : Rg g 7 p q ↔ p < g.evs.length ∧ q < g.evs.length ∧ memB g.addr p q = true := rg_of rfl
theorem rg8 : Rg g 8 p q ↔ p < g.evs.length ∧ q < g.evs.length ∧ memB g.dat p q = true := rg_of rfl
theorem rg9 : Rg g 9 p q ↔ p < g.evs.length ∧ q < g.evs.length ∧ memB g.ctrl p q = true := rg_of rfl
def Thr (g : Gr) (p q : Nat) : Prop := (g.ev p).t = (g.ev q).t
theorem Thr.trans {a b c : Nat} (h : Thr g a b) (k : Thr g b c) : Thr g a c := Eq.trans h k
theorem thr_po (h : Rg g 0 p q) : Thr g p q := by
  have := (rg0.1 h).2.2
  unfold poB at this
  simp only [Bool.and_eq_true, decide_eq_true_iff] at this
  exact this.1.2
theorem thr_ext (h : Rg g 6 p q) : ¬ Thr g p q := by
  have := (rg6.1 h).2.2
  unfold extB at this
  rw [decide_eq_true_iff] at this
  exact fun e => this e
theorem thr_not {k : Nat} (h : Rg g k p q) (h6 : ¬ Rg g 6 p q) : Thr g p q := by
  by_cases e : Thr g p q
  · exact e
  · exact absurd (rg6.2 ⟨Rg.l h, Rg.r h, decide_eq_true e⟩) h6
theorem dep_po {l : List (Int × Int)} {ks : List Int} (h : badD g.evs true l ks = -1) (hm : memB l p q = true) : poB g.evs p q = true := by
  have hm := of_decide_eq_true hm
  obtain ⟨i, hi, e⟩ := List.mem_iff_getElem.1 hm
  have := fst_all h i (Nat.zero_le _) (by omega)
  rw [List.getD_eq_getElem?_getD, List.getElem?_eq_getElem hi, Option.getD_some, e] at this
  simp [okDb] at this
  exact this.2.2
theorem wf_rule (h : (chk g true).1 = 0) : Wf g true := chk_zero h
theorem po4 (h : Wf g true) (k : Rg g 4 p q) : Rg g 0 p q := rg0.2 ⟨Rg.l k, Rg.r k, rmw_po h (rg4.1 k).2.2⟩
theorem po7 (h : Wf g true) (k : Rg g 7 p q) : Rg g 0 p q := rg0.2 ⟨Rg.l k, Rg.r k, dep_po (h 6 (by omega)) (rg7.1 k).2.2⟩
theorem po8 (h : Wf g true) (k : Rg g 8 p q) : Rg g 0 p q := rg0.2 ⟨Rg.l k, Rg.r k, dep_po (h 7 (by omega)) (rg8.1 k).2.2⟩
theorem po9 (h : Wf g true) (k : Rg g 9 p q) : Rg g 0 p q := rg0.2 ⟨Rg.l k, Rg.r k, dep_po (h 8 (by omega)) (rg9.1 k).2.2⟩
theorem cl_thr (h : Wf g true) {i : Nat} (hi : 3 ≤ i) (k : ClP g i p q) : Thr g p q := by
  match i, hi, k with
  | 3, _, k => exact thr_po (po7 h k)
  | 4, _, k => exact thr_po (po8 h k)
  | 5, _, k => exact thr_po (po9 h k.1)
  | 6, _, ⟨m, h1, h2, _⟩ => exact (thr_po (po7 h h1)).trans (thr_po h2)
  | 7, _, ⟨m, h1, h2, h3⟩ => exact (h1.elim (fun k => thr_po (po9 h k)) (fun k => thr_po (po8 h k))).trans (thr_not h2 h3)
  | 8, _, ⟨m, h1, h2, h3⟩ => exact (h1.elim (fun k => thr_po (po7 h k)) (fun k => thr_po (po8 h k))).trans (thr_not h2 h3)
  | 9, _, k => exact thr_po (po4 h k)
  | 10, _, ⟨_, h2, _⟩ => exact thr_not h2.1 h2.2
  | 11, _, ⟨m, h1, _, h3⟩ => exact (thr_po h1).trans (thr_po h3)
  | 12, _, ⟨_, m, h1, _, h3⟩ => exact (thr_po h1).trans (thr_po h3)
  | 13, _, ⟨_, h2, _⟩ => exact thr_po h2
  | 14, _, ⟨_, h2⟩ => exact thr_po h2
  | 15, _, ⟨h2, _⟩ => exact thr_po h2
  | n + 16, _, ⟨m, ⟨h1, _⟩, h2, h3⟩ => exact (thr_po h1).trans (thr_not h2 h3)
theorem cl_ext {i : Nat} (hi : i < 3) (k : ClP g i p q) : ¬ Thr g p q := by
  match i, hi, k with
  | 0, _, k => exact thr_ext k.2
  | 1, _, k => exact thr_ext k.2
  | 2, _, k => exact thr_ext k.2
def lawN (g : Gr) (i j : Nat) : Bool :=
  let x := (g.ev i).t
  let y := (g.ev j).t
  let h := fun k => hasP (RL g k) ((i : Nat) : Int) ((j : Nat) : Int)
  (h 0 && x == y) || ((h 3 || h 2) && x != y) || (h 1 && x != y) || (h 4 && decide (x ≥ 0) && decide (y < 0) && !h 0)
theorem lawN_no (hn : g.evs.length ≤ 256) (h : Wf g true) (i j : Nat) : lawN g i j = false := by
  have H0 := hasP_hs (wf_obs hn) (a := i) (b := j)
  have H1 := hasP_hs (wf_dob hn) (a := i) (b := j)
  have H2 := hasP_hs (wf_aob hn) (a := i) (b := j)
  have H3 := hasP_hs (wf_bob hn) (a := i) (b := j)
  have H4 := hasP_hs (wf_ob hn) (a := i) (b := j)
  rw [obs_iff hn] at H0
  rw [dob_iff hn] at H1
  rw [aob_iff hn] at H2
  rw [bob_iff hn] at H3
  rw [ob_iff hn] at H4
  have e0 : RL g 0 = obsL g (LG g) := rfl
  have e1 : RL g 1 = dobL g (LG g) := rfl
  have e2 : RL g 2 = aobL g (LG g) := rfl
  have e3 : RL g 3 = bobL g (LG g) := rfl
  have e4 : RL g 4 = obL g (LG g) := rfl
  unfold lawN
  dsimp only
  rw [e0, e1, e2, e3, e4]
  generalize hasP (obsL g (LG g)) _ _ = b0 at *
  generalize hasP (dobL g (LG g)) _ _ = b1 at *
  generalize hasP (aobL g (LG g)) _ _ = b2 at *
  generalize hasP (bobL g (LG g)) _ _ = b3 at *
  generalize hasP (obL g (LG g)) _ _ = b4 at *
  by_cases e : (g.ev i).t = (g.ev j).t
  · have c0 : b0 = false := by
      cases b0
      · rfl
      · obtain ⟨k, _, hk, h2⟩ := H0.1 rfl
        exact absurd e (cl_ext hk h2)
    rw [c0, e]
    simp
  · have no : ∀ k, 3 ≤ k → ¬ ClP g k i j := fun k hk h2 => e (cl_thr h hk h2)
    have c1 : b1 = false := by
      cases b1
      · rfl
      · obtain ⟨k, hk, _, h2⟩ := H1.1 rfl
        exact absurd h2 (no k hk)
    have c2 : b2 = false := by
      cases b2
      · rfl
      · obtain ⟨k, hk, _, h2⟩ := H2.1 rfl
        exact absurd h2 (no k (by omega))
    have c3 : b3 = false := by
      cases b3
      · rfl
      · obtain ⟨k, hk, _, h2⟩ := H3.1 rfl
        exact absurd h2 (no k (by omega))
    have c4 : b4 = true → b0 = true := fun c => by
      obtain ⟨k, hk, h2⟩ := H4.1 c
      exact H0.2 ⟨k, Nat.zero_le _, by apply Nat.lt_of_not_le; intro h3; exact no k h3 h2, h2⟩
    rw [c1, c2, c3]
    cases b4
    · simp [e]
    · rw [c4 rfl]; simp [e]
theorem ok_zero {l : List Int} (h : ArOK g 0 l) : CycOK (intL (LG g)) [] ∧ CycOK (obL g (LG g)) [] ∧ torn g = [] := by
  obtain ⟨o1, h1, h2⟩ := h
  rcases h2 with ⟨_, e, _⟩ | ⟨rfl, o2, h3, h4⟩
  · cases e
  · rcases h4 with ⟨_, e, _⟩ | ⟨rfl, h5⟩
    · cases e
    · rcases h5 with ⟨_, e, _⟩ | ⟨h6, _, _⟩
      · cases e
      · exact ⟨h1, h3, h6⟩
theorem int_no (hn : g.evs.length ≤ 256) (hI : CycOK (intL (LG g)) []) {p q : Nat} (h1 : hs (intL (LG g)) p q) (h2 : hs (intL (LG g)) q p) : False :=
  cyc_nil hn wf_int hI p (.tail (.single h1) h2)
theorem po_mk {a b : Nat} (ha : a < g.evs.length) (hb : b < g.evs.length) (hab : a < b) (h0 : 0 ≤ (g.ev a).t) (ht : (g.ev a).t = (g.ev b).t) : Rg g 0 a b := by
  refine rg0.2 ⟨ha, hb, ?_⟩
  unfold poB
  rw [decide_eq_true hab, decide_eq_true (show (g.evs.getD a Ev.zero).t = (g.evs.getD b Ev.zero).t from ht), decide_eq_true (show (g.evs.getD a Ev.zero).t ≠ -1 by have : (g.evs.getD a Ev.zero).t = (g.ev a).t := rfl; omega)]
  rfl
theorem same_mk {a b : Nat} (ha : a < g.evs.length) (hb : b < g.evs.length) (h1 : (g.ev a).k ≠ 3) (h2 : (g.ev b).k ≠ 3) (hl : (g.ev a).l = (g.ev b).l) : Rg g 5 a b := by
  refine rg5.2 ⟨ha, hb, ?_⟩
  unfold sameEv sameB
  rw [decide_eq_true (show (g.evs.getD a Ev.zero).k ≠ 3 from h1), decide_eq_true (show (g.evs.getD b Ev.zero).k ≠ 3 from h2), decide_eq_true (show (g.evs.getD a Ev.zero).l = (g.evs.getD b Ev.zero).l from hl)]
  rfl
theorem rf_parts (h : Wf g true) {i : Nat} {x : Int × Int} (hx : g.rf[i]? = some x) : ∃ a b : Nat, x = (((a : Nat) : Int), ((b : Nat) : Int)) ∧ a < g.evs.length ∧ b < g.evs.length ∧ (g.ev a).k = 2 ∧ (g.ev b).k = 1 ∧ (g.ev a).l = (g.ev b).l ∧ memB g.rf a b = true := by
  obtain ⟨a, b, rfl, ha, hb⟩ := rf_at h hx
  have h4 : bad4 g = -1 := h 3 (by omega)
  have hi := (List.getElem?_eq_some_iff.1 hx).1
  have hr : fstBad (fun i => !(ok4a g i (g.rf.getD i (0, 0)) && ok4b g (g.rf.getD i (0, 0)))) 0 g.rf.length = -1 := by
    unfold bad4 at h4
    dsimp only at h4
    split at h4
    · assumption
    · exact h4
  have := fst_all hr i (Nat.zero_le _) (by omega)
  rw [List.getD_eq_getElem?_getD, hx, Option.getD_some] at this
  simp [ok4a, ok4b, isB] at this
  have hm := List.mem_of_getElem? hb
  unfold Gr.reads numK at hm
  rw [List.mem_filter, List.mem_range] at hm
  refine ⟨a, b, rfl, ha, hm.1, ?_, ?_, ?_, decide_eq_true (List.mem_of_getElem? hx)⟩
  · exact this.1.2.2
  · simpa [Gr.ev] using hm.2
  · exact this.2.1
theorem rf_law (hn : g.evs.length ≤ 256) (hI : CycOK (intL (LG g)) []) {a b : Nat} (hm : memB g.rf a b = true) (ha : a < g.evs.length) (hb : b < g.evs.length) (hka : (g.ev a).k = 2) (hkb : (g.ev b).k = 1) (hl : (g.ev a).l = (g.ev b).l)
    (h0 : 0 ≤ (g.ev a).t) (ht : (g.ev a).t = (g.ev b).t) : ¬ b < a := fun hlt =>
  int_no hn hI (p := a) (q := b) (int_iff.2 (.inr (.inl (rg1.2 ⟨ha, hb, hm⟩)))) (int_iff.2 (.inl ⟨po_mk hb ha hlt (by omega) ht.symm, same_mk hb ha (by omega) (by omega) hl.symm⟩))
theorem co_law (hn : g.evs.length ≤ 256) (hI : CycOK (intL (LG g)) []) {a b : Nat} (hm : coB g a b = true) (ha : a < g.evs.length) (hb : b < g.evs.length) (hka : (g.ev a).k = 2) (hkb : (g.ev b).k = 2) (hl : (g.ev a).l = (g.ev b).l)
    (h0 : 0 ≤ (g.ev a).t) (ht : (g.ev a).t = (g.ev b).t) : ¬ b < a := fun hlt =>
  int_no hn hI (p := a) (q := b) (int_iff.2 (.inr (.inr (.inl (rg2.2 ⟨ha, hb, hm⟩))))) (int_iff.2 (.inl ⟨po_mk hb ha hlt (by omega) ht.symm, same_mk hb ha (by omega) (by omega) hl.symm⟩))
theorem ob_acy (hn : g.evs.length ≤ 256) (hO : CycOK (obL g (LG g)) []) : (loopsL (plusL (RL g 4)) == 0) = true := by
  have e : RL g 4 = obL g (LG g) := rfl
  rw [e, beq_iff_eq, loops_zero]
  intro p hp
  rw [hs_plus (wf_ob hn)] at hp
  exact cyc_nil hn (wf_ob hn) hO p hp
end
end Go.Proofs.YtmmadkghojoniaaGreatDoor
