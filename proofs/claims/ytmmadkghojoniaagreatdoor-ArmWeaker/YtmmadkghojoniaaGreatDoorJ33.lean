/- What each clause of arm says, in words. (Printed by arm_m.py.) -/
import Derived.Test.YtmmadkghojoniaaGreatDoorJ25
import Derived.Test.YtmmadkghojoniaaGreatDoorGLawM
import Derived.Test.YtmmadkghojoniaaGreatDoorJ23
namespace Go.Proofs.YtmmadkghojoniaaGreatDoor
open Go.RowKit Go.Shelf Sx Relation
theorem hs_can {n : Nat} {F : Nat → Nat → Bool} {p q : Nat} (h : hs (canL n F) p q) : p < n ∧ q < n ∧ F p q = true := by
  have hp := hs_left h
  rw [canL_length] at hp
  have h2 := h
  unfold hs at h2
  rw [gr_canL n F hp, testBit_rowK, Bool.and_eq_true, decide_eq_true_iff] at h2
  exact ⟨hp, h2.1, h2.2⟩
theorem hs_idn {n : Nat} (hn : n ≤ 256) {l : List Bool} {p q : Nat} (h : hs (identL ((n : Nat) : Int) l) p q) : p = q ∧ l.getD p false = true := by
  unfold identL at h
  rw [clamp_small hn] at h
  rw [hs_identIn _ _ (fun q hq => by rw [List.length_replicate]; exact ((row_mem hn l q).1 hq).1), row_mem hn] at h
  rcases h with h | h
  · exact absurd h (hs_zero _ _ _)
  · exact ⟨h.1, h.2.2⟩
theorem wf_idn {n : Nat} (hn : n ≤ 256) (l : List Bool) : WF n (identL ((n : Nat) : Int) l) := by
  refine ⟨by unfold identL; rw [identIn_len, List.length_replicate, clamp_small hn], fun p q h => ?_⟩
  have hp := hs_left h
  have := hs_idn hn h
  unfold identL at hp
  rw [identIn_len, List.length_replicate, clamp_small hn] at hp
  omega
theorem tru_at {P : Ev → Bool} {evs : List Ev} {p : Nat} (h : (truL P evs).getD p false = true) : p < evs.length ∧ P (evs.getD p Ev.zero) = true := by
  unfold truL at h
  rw [List.getD_eq_getElem?_getD, List.getElem?_map] at h
  cases he : evs[p]? with
  | none => rw [he] at h; simp at h
  | some e =>
    rw [he] at h
    simp at h
    refine ⟨(List.getElem?_eq_some_iff.1 he).1, ?_⟩
    rw [List.getD_eq_getElem?_getD, he]
    exact h
section
variable {g : Gr} {p q : Nat}
theorem hs_knd (hn : g.evs.length ≤ 256) {x : Int} (h : hs (identL ((g.evs.length : Nat) : Int) (kndL g x)) p q) : p = q ∧ p < g.evs.length ∧ (g.ev p).k = x := by
  obtain ⟨h1, h2⟩ := hs_idn hn h
  have h3 := tru_at h2
  exact ⟨h1, h3.1, by have := h3.2; exact beq_iff_eq.1 this⟩
theorem hs_md (hn : g.evs.length ≤ 256) {ms : List Int} (h : hs (identL ((g.evs.length : Nat) : Int) (mdL g ms)) p q) : p = q ∧ p < g.evs.length ∧ (g.ev p).m ∈ ms := by
  obtain ⟨h1, h2⟩ := hs_idn hn h
  have h3 := tru_at h2
  exact ⟨h1, h3.1, by have := h3.2; exact List.contains_iff_mem.1 this⟩
theorem wf_LG (g : Gr) (i : Nat) : WF g.evs.length (LG g i) := by
  match i with
  | 0 => exact canL_wf _ _
  | 1 => exact canL_wf _ _
  | 2 => exact canL_wf _ _
  | 3 => exact canL_wf _ _
  | 4 => exact canL_wf _ _
  | 5 => exact canL_wf _ _
  | 6 => exact canL_wf _ _
  | 7 => exact canL_wf _ _
  | 8 => exact canL_wf _ _
  | n + 9 => exact canL_wf _ _
end
theorem cyc_nil {n : Nat} {L : List Nat} (hn : n ≤ 256) (hw : WF n L) (h : CycOK L []) : ∀ p, ¬ TransGen (hs L) p p := by
  intro p hp
  rcases h with ⟨e, _⟩ | ⟨s, tl, ly, _, _, e⟩
  · have hl := (hs_plus hw p p).2 hp
    have hpn := trans_low hw hp
    have : p ∈ bitsOf (loopsL (plusL L)) := mem_bitsOf.2 ⟨by omega, by
      unfold loopsL
      rw [loops_bit]
      exact ⟨by rw [plusL_length, hw.len]; exact hpn, hl⟩⟩
    rw [e] at this
    cases this
  · cases e
theorem hs_idn_iff {n : Nat} (hn : n ≤ 256) {l : List Bool} {p q : Nat} : hs (identL ((n : Nat) : Int) l) p q ↔ p = q ∧ p < n ∧ l.getD p false = true := by
  unfold identL
  rw [clamp_small hn, hs_identIn _ _ (fun q hq => by rw [List.length_replicate]; exact ((row_mem hn l q).1 hq).1), row_mem hn]
  constructor
  · rintro (h | h)
    · exact absurd h (hs_zero _ _ _)
    · exact h
  · exact .inr
theorem imgIn_at : ∀ (l : List Nat) (X : List Bool) (q : Nat), q < X.length → (imgIn X l)[q]? = some (decide (q ∈ l) || X.getD q false)
  | [], X, q, hq => by simp [imgIn, hq]
  | x :: l, X, q, hq => by
    show (imgIn (X.set x true) l)[q]? = _
    rw [imgIn_at l _ q (by rw [List.length_set]; exact hq)]
    congr 1
    rw [List.getD_eq_getElem?_getD, List.getElem?_set]
    by_cases e : x = q
    · subst e; simp [hq]
    · rw [if_neg e]
      have e' : ¬ q = x := fun h => e h.symm
      simp [e', hq]
theorem img_iff {n : Nat} {L : List Nat} (hn : n ≤ 256) (hL : WF n L) {l : List Bool} {q : Nat} : (imgL L l).getD q false = true ↔ q < n ∧ ∃ m, l.getD m false = true ∧ hs L m q := by
  unfold imgL
  have key : ∀ q, q ∈ bitsOf (joinRows L (bitsOf (rowOfL L.length l))) ↔ ∃ m, l.getD m false = true ∧ hs L m q := fun q => by
    rw [mem_bitsOf]
    unfold joinRows
    rw [join_bits]
    constructor
    · rintro ⟨_, h | ⟨p, hp, h⟩⟩
      · simp at h
      · rw [hL.len, row_mem hn] at hp
        exact ⟨p, hp.2, h⟩
    · rintro ⟨m, hm, h⟩
      refine ⟨Nat.lt_of_lt_of_le (hL.low _ _ h) hn, .inr ⟨m, ?_, h⟩⟩
      rw [hL.len, row_mem hn]
      exact ⟨by have := hs_left h; rw [hL.len] at this; exact this, hm⟩
  by_cases hq : q < n
  · rw [List.getD_eq_getElem?_getD, imgIn_at _ _ q (by rw [List.length_replicate, hL.len]; exact hq), Option.getD_some, Bool.or_eq_true, decide_eq_true_iff, key]
    constructor
    · rintro (h | h)
      · exact ⟨hq, h⟩
      · simp [List.getD_eq_getElem?_getD, hL.len, hq] at h
    · exact fun h => .inl h.2
  · constructor
    · intro h
      rw [List.getD_eq_getElem?_getD, List.getElem?_eq_none (by rw [imgIn_length, List.length_replicate, hL.len]; omega)] at h
      cases h
    · exact fun h => absurd h.1 hq
theorem uniF_len : ∀ (Ls : List (List Nat)) (X : List Nat), (Ls.foldl (fun A L => uniK A L L.length) X).length = X.length
  | [], _ => rfl
  | L :: Ls, X => by rw [List.foldl_cons, uniF_len Ls, uniK_length]
theorem hs_uniN {n : Nat} (p q : Nat) : ∀ (Ls : List (List Nat)) (X : List Nat), X.length = n → (∀ L ∈ Ls, WF n L) → (hs (Ls.foldl (fun A L => uniK A L L.length) X) p q ↔ hs X p q ∨ ∃ L ∈ Ls, hs L p q)
  | [], X, _, _ => by simp
  | L :: Ls, X, hX, h => by
    rw [List.foldl_cons, hs_uniN p q Ls _ (by rw [uniK_length, hX]) (fun M hM => h M (List.mem_cons_of_mem _ hM)), hs_uni hX (h L List.mem_cons_self)]
    simp [or_assoc]
theorem maxN {n : Nat} : ∀ (Ls : List (List Nat)) (k : Nat), k ≤ n → (∀ L ∈ Ls, WF n L) → Ls ≠ [] → Ls.foldl (fun n L => max n L.length) k = n
  | [], _, _, _, h => absurd rfl h
  | [L], k, hk, h, _ => by rw [List.foldl_cons, (h L List.mem_cons_self).len]; simp only [List.foldl]; omega
  | L :: M :: Ls, k, hk, h, _ => by
    rw [List.foldl_cons]
    exact maxN (M :: Ls) _ (by rw [(h L List.mem_cons_self).len]; omega) (fun A hA => h A (List.mem_cons_of_mem _ hA)) (by simp)
theorem hs_unN {n : Nat} {Ls : List (List Nat)} (h : ∀ L ∈ Ls, WF n L) (hne : Ls ≠ []) (p q : Nat) : hs (unionL Ls) p q ↔ ∃ L ∈ Ls, hs L p q := by
  unfold unionL
  rw [hs_uniN (n := n) p q Ls _ (by rw [List.length_replicate]; exact maxN Ls 0 (Nat.zero_le _) h hne) h]
  constructor
  · rintro (h | h)
    · exact absurd h (hs_zero _ _ _)
    · exact h
  · exact .inr
theorem wf_unN {n : Nat} {Ls : List (List Nat)} (h : ∀ L ∈ Ls, WF n L) (hne : Ls ≠ []) : WF n (unionL Ls) := by
  refine ⟨by unfold unionL; rw [uniF_len, List.length_replicate]; exact maxN Ls 0 (Nat.zero_le _) h hne, fun p q k => ?_⟩
  obtain ⟨L, hL, k⟩ := (hs_unN h hne p q).1 k
  exact (h L hL).low _ _ k
section
variable (g : Gr)
abbrev Rg (k p q : Nat) : Prop := hs (LG g k) p q
def ClP : Nat → Nat → Nat → Prop
  | 0, p, q => Rg g 1 p q ∧ Rg g 6 p q
  | 1, p, q => Rg g 2 p q ∧ Rg g 6 p q
  | 2, p, q => Rg g 3 p q ∧ Rg g 6 p q
  | 3, p, q => Rg g 7 p q
  | 4, p, q => Rg g 8 p q
  | 5, p, q => Rg g 9 p q ∧ (g.ev q).k = 2
  | 6, p, q => ∃ m, Rg g 7 p m ∧ Rg g 0 m q ∧ (g.ev q).k = 2
  | 7, p, q => ∃ m, (Rg g 9 p m ∨ Rg g 8 p m) ∧ Rg g 2 m q ∧ ¬ Rg g 6 m q
  | 8, p, q => ∃ m, (Rg g 7 p m ∨ Rg g 8 p m) ∧ Rg g 1 m q ∧ ¬ Rg g 6 m q
  | 9, p, q => Rg g 4 p q
  | 10, p, q => (∃ m, (g.ev m).k = 1 ∧ Rg g 4 m p) ∧ (Rg g 1 p q ∧ ¬ Rg g 6 p q) ∧ (g.ev q).m ∈ ([12, 16] : List Int)
  | 11, p, q => ∃ m, Rg g 0 p m ∧ (g.ev m).m ∈ ([15] : List Int) ∧ Rg g 0 m q
  | 12, p, q => (g.ev p).k = 1 ∧ ∃ m, Rg g 0 p m ∧ (g.ev m).m ∈ ([14] : List Int) ∧ Rg g 0 m q
  | 13, p, q => (g.ev p).m ∈ ([13] : List Int) ∧ Rg g 0 p q ∧ (g.ev q).m ∈ ([12] : List Int)
  | 14, p, q => (g.ev p).m ∈ ([12, 16] : List Int) ∧ Rg g 0 p q
  | 15, p, q => Rg g 0 p q ∧ (g.ev q).m ∈ ([13] : List Int)
  | _, p, q => ∃ m, (Rg g 0 p m ∧ (g.ev m).m ∈ ([13] : List Int)) ∧ Rg g 2 m q ∧ ¬ Rg g 6 m q
variable {g} {p q : Nat}
theorem hs_kndI (hn : g.evs.length ≤ 256) {x : Int} (hp : p < g.evs.length) : hs (identL ((g.evs.length : Nat) : Int) (kndL g x)) p q ↔ p = q ∧ (g.ev p).k = x := by
  constructor
  · exact fun h => ⟨(hs_knd hn h).1, (hs_knd hn h).2.2⟩
  · rintro ⟨rfl, h⟩
    refine (hs_idn_iff hn).2 ⟨rfl, hp, ?_⟩
    unfold kndL truL
    rw [List.getD_eq_getElem?_getD, List.getElem?_map, Gr.ev_at hp]
    simpa using h
theorem hs_mdI (hn : g.evs.length ≤ 256) {ms : List Int} (hp : p < g.evs.length) : hs (identL ((g.evs.length : Nat) : Int) (mdL g ms)) p q ↔ p = q ∧ (g.ev p).m ∈ ms := by
  constructor
  · exact fun h => ⟨(hs_md hn h).1, (hs_md hn h).2.2⟩
  · rintro ⟨rfl, h⟩
    refine (hs_idn_iff hn).2 ⟨rfl, hp, ?_⟩
    unfold mdL truL
    rw [List.getD_eq_getElem?_getD, List.getElem?_map, Gr.ev_at hp]
    simpa using h
theorem Rg.l {k : Nat} (h : Rg g k p q) : p < g.evs.length := by have := hs_left h; rw [(wf_LG g k).len] at this; exact this
theorem Rg.r {k : Nat} (h : Rg g k p q) : q < g.evs.length := (wf_LG g k).low _ _ h
theorem cl12 (g : Gr) : clL g (LG g) 12 = compL (compL (compL (identL ((g.evs.length : Nat) : Int) (kndL g 1)) (LG g 0)) (identL ((g.evs.length : Nat) : Int) (mdL g [14]))) (LG g 0) := by
  simp only [clL, chainL, List.foldl, rdI, mdI]
set_option maxHeartbeats 8000000 in
theorem wf_cl (hn : g.evs.length ≤ 256) (i : Nat) (hi : i < 17) : WF g.evs.length (clL g (LG g) i) := by
  have L := wf_LG g
  have I : ∀ l, WF g.evs.length (identL ((g.evs.length : Nat) : Int) l) := fun l => wf_idn hn l
  match i, hi with
  | 0, _ => exact wf_inter (L 1) (L 6)
  | 1, _ => exact wf_inter (L 2) (L 6)
  | 2, _ => exact wf_inter (L 3) (L 6)
  | 3, _ => exact L 7
  | 4, _ => exact L 8
  | 5, _ => exact wf_comp hn (L 9) (I _)
  | 6, _ => exact wf_comp hn (wf_comp hn (L 7) (L 0)) (I _)
  | 7, _ => exact wf_comp hn (wf_union (L 9) (L 8)) (wf_minus (L 2) (L 6))
  | 8, _ => exact wf_comp hn (wf_union (L 7) (L 8)) (wf_minus (L 1) (L 6))
  | 9, _ => exact L 4
  | 10, _ => exact wf_comp hn (wf_comp hn (I _) (wf_minus (L 1) (L 6))) (I _)
  | 11, _ => exact wf_comp hn (wf_comp hn (L 0) (I _)) (L 0)
  | 12, _ => rw [cl12]; exact wf_comp hn (wf_comp hn (wf_comp hn (I _) (L 0)) (I _)) (L 0)
  | 13, _ => exact wf_comp hn (wf_comp hn (I _) (L 0)) (I _)
  | 14, _ => exact wf_comp hn (I _) (L 0)
  | 15, _ => exact wf_comp hn (L 0) (I _)
  | 16, _ => exact wf_comp hn (wf_comp hn (L 0) (I _)) (wf_minus (L 2) (L 6))
  | n + 17, h => omega
set_option maxHeartbeats 8000000 in
theorem cl_iff (hn : g.evs.length ≤ 256) {i : Nat} (hi : i < 17) (p q : Nat) : hs (clL g (LG g) i) p q ↔ ClP g i p q := by
  have L := wf_LG g
  have I : ∀ l, WF g.evs.length (identL ((g.evs.length : Nat) : Int) l) := fun l => wf_idn hn l
  match i, hi with
  | 0, _ => exact hs_inter (L 1) (L 6) p q
  | 1, _ => exact hs_inter (L 2) (L 6) p q
  | 2, _ => exact hs_inter (L 3) (L 6) p q
  | 3, _ => exact Iff.rfl
  | 4, _ => exact Iff.rfl
  | 5, _ =>
    refine (hs_comp hn (L 9) (I _) p q).trans ⟨fun ⟨m, h1, h2⟩ => ?_, fun ⟨h1, h2⟩ => ⟨q, h1, (hs_kndI hn (Rg.r h1)).2 ⟨rfl, h2⟩⟩⟩
    obtain ⟨rfl, _, h3⟩ := hs_knd hn h2
    exact ⟨h1, h3⟩
  | 6, _ =>
    refine (hs_comp hn (wf_comp hn (L 7) (L 0)) (I _) p q).trans ⟨fun ⟨m, h1, h2⟩ => ?_, fun ⟨m, h1, h2, h3⟩ => ⟨q, (hs_comp hn (L 7) (L 0) p q).2 ⟨m, h1, h2⟩, (hs_kndI hn (Rg.r h2)).2 ⟨rfl, h3⟩⟩⟩
    obtain ⟨rfl, _, h3⟩ := hs_knd hn h2
    obtain ⟨x, h4, h5⟩ := (hs_comp hn (L 7) (L 0) p m).1 h1
    exact ⟨x, h4, h5, h3⟩
  | 7, _ =>
    refine (hs_comp hn (wf_union (L 9) (L 8)) (wf_minus (L 2) (L 6)) p q).trans ⟨fun ⟨m, h1, h2⟩ => ⟨m, (hs_union (L 9) (L 8) p m).1 h1, (hs_minus (L 2) (L 6) m q).1 h2⟩, fun ⟨m, h1, h2⟩ => ⟨m, (hs_union (L 9) (L 8) p m).2 h1, (hs_minus (L 2) (L 6) m q).2 h2⟩⟩
  | 8, _ =>
    refine (hs_comp hn (wf_union (L 7) (L 8)) (wf_minus (L 1) (L 6)) p q).trans ⟨fun ⟨m, h1, h2⟩ => ⟨m, (hs_union (L 7) (L 8) p m).1 h1, (hs_minus (L 1) (L 6) m q).1 h2⟩, fun ⟨m, h1, h2⟩ => ⟨m, (hs_union (L 7) (L 8) p m).2 h1, (hs_minus (L 1) (L 6) m q).2 h2⟩⟩
  | 9, _ => exact Iff.rfl
  | 10, _ =>
    have W1 := wf_minus (L 1) (L 6)
    refine (hs_comp hn (wf_comp hn (I _) W1) (I _) p q).trans ⟨fun ⟨m, h1, h2⟩ => ?_, fun ⟨⟨x, h0, h1⟩, h2, h3⟩ => ⟨q, (hs_comp hn (I _) W1 p q).2 ⟨p, (hs_idn_iff hn).2 ⟨rfl, Rg.l h2.1, (img_iff hn (L 4)).2 ⟨Rg.r h1, x, ?_, h1⟩⟩, (hs_minus (L 1) (L 6) p q).2 h2⟩, (hs_mdI hn (Rg.r h2.1)).2 ⟨rfl, h3⟩⟩⟩
    · obtain ⟨rfl, _, h3⟩ := hs_md hn h2
      obtain ⟨x, h4, h5⟩ := (hs_comp hn (I _) W1 p m).1 h1
      obtain ⟨rfl, h6⟩ := hs_idn hn h4
      obtain ⟨_, y, h7, h8⟩ := (img_iff hn (L 4)).1 h6
      exact ⟨⟨y, beq_iff_eq.1 (tru_at h7).2, h8⟩, (hs_minus (L 1) (L 6) p m).1 h5, h3⟩
    · unfold kndL truL
      rw [List.getD_eq_getElem?_getD, List.getElem?_map, Gr.ev_at (Rg.l h1)]
      simpa using h0
  | 11, _ =>
    refine (hs_comp hn (wf_comp hn (L 0) (I _)) (L 0) p q).trans ⟨fun ⟨m, h1, h2⟩ => ?_, fun ⟨m, h1, h2, h3⟩ => ⟨m, (hs_comp hn (L 0) (I _) p m).2 ⟨m, h1, (hs_mdI hn (Rg.r h1)).2 ⟨rfl, h2⟩⟩, h3⟩⟩
    obtain ⟨x, h4, h5⟩ := (hs_comp hn (L 0) (I _) p m).1 h1
    obtain ⟨rfl, _, h6⟩ := hs_md hn h5
    exact ⟨x, h4, h6, h2⟩
  | 12, _ =>
    have W1 := wf_comp hn (I (kndL g 1)) (L 0)
    rw [cl12]
    refine (hs_comp hn (wf_comp hn W1 (I _)) (L 0) p q).trans ⟨fun ⟨m, h1, h2⟩ => ?_, fun ⟨h0, m, h1, h2, h3⟩ => ⟨m, (hs_comp hn W1 (I _) p m).2 ⟨m, (hs_comp hn (I _) (L 0) p m).2 ⟨p, (hs_kndI hn (Rg.l h1)).2 ⟨rfl, h0⟩, h1⟩, (hs_mdI hn (Rg.r h1)).2 ⟨rfl, h2⟩⟩, h3⟩⟩
    obtain ⟨x, h4, h5⟩ := (hs_comp hn W1 (I _) p m).1 h1
    obtain ⟨rfl, _, h6⟩ := hs_md hn h5
    obtain ⟨y, h7, h8⟩ := (hs_comp hn (I _) (L 0) p x).1 h4
    obtain ⟨rfl, _, h9⟩ := hs_knd hn h7
    exact ⟨h9, x, h8, h6, h2⟩
  | 13, _ =>
    refine (hs_comp hn (wf_comp hn (I _) (L 0)) (I _) p q).trans ⟨fun ⟨m, h1, h2⟩ => ?_, fun ⟨h1, h2, h3⟩ => ⟨q, (hs_comp hn (I _) (L 0) p q).2 ⟨p, (hs_mdI hn (Rg.l h2)).2 ⟨rfl, h1⟩, h2⟩, (hs_mdI hn (Rg.r h2)).2 ⟨rfl, h3⟩⟩⟩
    obtain ⟨rfl, _, h3⟩ := hs_md hn h2
    obtain ⟨x, h4, h5⟩ := (hs_comp hn (I _) (L 0) p m).1 h1
    obtain ⟨rfl, _, h6⟩ := hs_md hn h4
    exact ⟨h6, h5, h3⟩
  | 14, _ =>
    refine (hs_comp hn (I _) (L 0) p q).trans ⟨fun ⟨m, h1, h2⟩ => ?_, fun ⟨h1, h2⟩ => ⟨p, (hs_mdI hn (Rg.l h2)).2 ⟨rfl, h1⟩, h2⟩⟩
    obtain ⟨rfl, _, h3⟩ := hs_md hn h1
    exact ⟨h3, h2⟩
  | 15, _ =>
    refine (hs_comp hn (L 0) (I _) p q).trans ⟨fun ⟨m, h1, h2⟩ => ?_, fun ⟨h1, h2⟩ => ⟨q, h1, (hs_mdI hn (Rg.r h1)).2 ⟨rfl, h2⟩⟩⟩
    obtain ⟨rfl, _, h3⟩ := hs_md hn h2
    exact ⟨h1, h3⟩
  | 16, _ =>
    refine (hs_comp hn (wf_comp hn (L 0) (I _)) (wf_minus (L 2) (L 6)) p q).trans ⟨fun ⟨m, h1, h2⟩ => ?_, fun ⟨m, ⟨h1, h2⟩, h3⟩ => ⟨m, (hs_comp hn (L 0) (I _) p m).2 ⟨m, h1, (hs_mdI hn (Rg.r h1)).2 ⟨rfl, h2⟩⟩, (hs_minus (L 2) (L 6) m q).2 h3⟩⟩
    obtain ⟨x, h4, h5⟩ := (hs_comp hn (L 0) (I _) p m).1 h1
    obtain ⟨rfl, _, h6⟩ := hs_md hn h5
    exact ⟨x, ⟨h4, h6⟩, (hs_minus (L 2) (L 6) x q).1 h2⟩
  | n + 17, h => omega
set_option maxHeartbeats 8000000 in
theorem obs_iff (hn : g.evs.length ≤ 256) : hs (obsL g (LG g)) p q ↔ ∃ i, 0 ≤ i ∧ i < 3 ∧ ClP g i p q := by
  unfold obsL
  rw [hs_unN (n := g.evs.length) (by intro L h; simp only [List.mem_cons, List.not_mem_nil, or_false] at h; rcases h with rfl | rfl | rfl <;> exact wf_cl hn _ (by decide)) (List.cons_ne_nil _ _)]
  simp only [List.mem_cons, List.not_mem_nil, or_false, exists_eq_or_imp, exists_eq_left]
  rw [cl_iff hn (show (0 : Nat) < 17 by decide), cl_iff hn (show (1 : Nat) < 17 by decide), cl_iff hn (show (2 : Nat) < 17 by decide)]
  constructor
  · rintro (h | h | h)
    · exact ⟨0, by decide, by decide, h⟩
    · exact ⟨1, by decide, by decide, h⟩
    · exact ⟨2, by decide, by decide, h⟩
  · rintro ⟨i, h1, h2, h⟩
    have e : i = 0 ∨ i = 1 ∨ i = 2 := by omega
    rcases e with rfl | rfl | rfl
    · exact .inl h
    · exact .inr (.inl h)
    · exact .inr (.inr (h))
theorem wf_obs (hn : g.evs.length ≤ 256) : WF g.evs.length (obsL g (LG g)) := wf_unN (by intro L h; simp only [List.mem_cons, List.not_mem_nil, or_false] at h; rcases h with rfl | rfl | rfl <;> exact wf_cl hn _ (by decide)) (List.cons_ne_nil _ _)
set_option maxHeartbeats 8000000 in
theorem dob_iff (hn : g.evs.length ≤ 256) : hs (dobL g (LG g)) p q ↔ ∃ i, 3 ≤ i ∧ i < 9 ∧ ClP g i p q := by
  unfold dobL
  rw [hs_unN (n := g.evs.length) (by intro L h; simp only [List.mem_cons, List.not_mem_nil, or_false] at h; rcases h with rfl | rfl | rfl | rfl | rfl | rfl <;> exact wf_cl hn _ (by decide)) (List.cons_ne_nil _ _)]
  simp only [List.mem_cons, List.not_mem_nil, or_false, exists_eq_or_imp, exists_eq_left]
  rw [cl_iff hn (show (3 : Nat) < 17 by decide), cl_iff hn (show (4 : Nat) < 17 by decide), cl_iff hn (show (5 : Nat) < 17 by decide), cl_iff hn (show (6 : Nat) < 17 by decide), cl_iff hn (show (7 : Nat) < 17 by decide), cl_iff hn (show (8 : Nat) < 17 by decide)]
  constructor
  · rintro (h | h | h | h | h | h)
    · exact ⟨3, by decide, by decide, h⟩
    · exact ⟨4, by decide, by decide, h⟩
    · exact ⟨5, by decide, by decide, h⟩
    · exact ⟨6, by decide, by decide, h⟩
    · exact ⟨7, by decide, by decide, h⟩
    · exact ⟨8, by decide, by decide, h⟩
  · rintro ⟨i, h1, h2, h⟩
    have e : i = 3 ∨ i = 4 ∨ i = 5 ∨ i = 6 ∨ i = 7 ∨ i = 8 := by omega
    rcases e with rfl | rfl | rfl | rfl | rfl | rfl
    · exact .inl h
    · exact .inr (.inl h)
    · exact .inr (.inr (.inl h))
    · exact .inr (.inr (.inr (.inl h)))
    · exact .inr (.inr (.inr (.inr (.inl h))))
    · exact .inr (.inr (.inr (.inr (.inr (h)))))
theorem wf_dob (hn : g.evs.length ≤ 256) : WF g.evs.length (dobL g (LG g)) := wf_unN (by intro L h; simp only [List.mem_cons, List.not_mem_nil, or_false] at h; rcases h with rfl | rfl | rfl | rfl | rfl | rfl <;> exact wf_cl hn _ (by decide)) (List.cons_ne_nil _ _)
set_option maxHeartbeats 8000000 in
theorem aob_iff (hn : g.evs.length ≤ 256) : hs (aobL g (LG g)) p q ↔ ∃ i, 9 ≤ i ∧ i < 11 ∧ ClP g i p q := by
  unfold aobL
  rw [hs_unN (n := g.evs.length) (by intro L h; simp only [List.mem_cons, List.not_mem_nil, or_false] at h; rcases h with rfl | rfl <;> exact wf_cl hn _ (by decide)) (List.cons_ne_nil _ _)]
  simp only [List.mem_cons, List.not_mem_nil, or_false, exists_eq_or_imp, exists_eq_left]
  rw [cl_iff hn (show (9 : Nat) < 17 by decide), cl_iff hn (show (10 : Nat) < 17 by decide)]
  constructor
  · rintro (h | h)
    · exact ⟨9, by decide, by decide, h⟩
    · exact ⟨10, by decide, by decide, h⟩
  · rintro ⟨i, h1, h2, h⟩
    have e : i = 9 ∨ i = 10 := by omega
    rcases e with rfl | rfl
    · exact .inl h
    · exact .inr (h)
theorem wf_aob (hn : g.evs.length ≤ 256) : WF g.evs.length (aobL g (LG g)) := wf_unN (by intro L h; simp only [List.mem_cons, List.not_mem_nil, or_false] at h; rcases h with rfl | rfl <;> exact wf_cl hn _ (by decide)) (List.cons_ne_nil _ _)
set_option maxHeartbeats 8000000 in
theorem bob_iff (hn : g.evs.length ≤ 256) : hs (bobL g (LG g)) p q ↔ ∃ i, 11 ≤ i ∧ i < 17 ∧ ClP g i p q := by
  unfold bobL
  rw [hs_unN (n := g.evs.length) (by intro L h; simp only [List.mem_cons, List.not_mem_nil, or_false] at h; rcases h with rfl | rfl | rfl | rfl | rfl | rfl <;> exact wf_cl hn _ (by decide)) (List.cons_ne_nil _ _)]
  simp only [List.mem_cons, List.not_mem_nil, or_false, exists_eq_or_imp, exists_eq_left]
  rw [cl_iff hn (show (11 : Nat) < 17 by decide), cl_iff hn (show (12 : Nat) < 17 by decide), cl_iff hn (show (13 : Nat) < 17 by decide), cl_iff hn (show (14 : Nat) < 17 by decide), cl_iff hn (show (15 : Nat) < 17 by decide), cl_iff hn (show (16 : Nat) < 17 by decide)]
  constructor
  · rintro (h | h | h | h | h | h)
    · exact ⟨11, by decide, by decide, h⟩
    · exact ⟨12, by decide, by decide, h⟩
    · exact ⟨13, by decide, by decide, h⟩
    · exact ⟨14, by decide, by decide, h⟩
    · exact ⟨15, by decide, by decide, h⟩
    · exact ⟨16, by decide, by decide, h⟩
  · rintro ⟨i, h1, h2, h⟩
    have e : i = 11 ∨ i = 12 ∨ i = 13 ∨ i = 14 ∨ i = 15 ∨ i = 16 := by omega
    rcases e with rfl | rfl | rfl | rfl | rfl | rfl
    · exact .inl h
    · exact .inr (.inl h)
    · exact .inr (.inr (.inl h))
    · exact .inr (.inr (.inr (.inl h)))
    · exact .inr (.inr (.inr (.inr (.inl h))))
    · exact .inr (.inr (.inr (.inr (.inr (h)))))
theorem wf_bob (hn : g.evs.length ≤ 256) : WF g.evs.length (bobL g (LG g)) := wf_unN (by intro L h; simp only [List.mem_cons, List.not_mem_nil, or_false] at h; rcases h with rfl | rfl | rfl | rfl | rfl | rfl <;> exact wf_cl hn _ (by decide)) (List.cons_ne_nil _ _)
theorem wfs_nil (n : Nat) : ∀ L ∈ ([] : List (List Nat)), WF n L := fun L h => by cases h
theorem wfs_cons {n : Nat} {A : List Nat} {Ls : List (List Nat)} (h : WF n A) (k : ∀ L ∈ Ls, WF n L) : ∀ L ∈ A :: Ls, WF n L := fun L hL => by
  rcases List.mem_cons.1 hL with e | hL
  · rw [e]; exact h
  · exact k L hL
theorem ob_wfs (hn : g.evs.length ≤ 256) : ∀ L ∈ [obsL g (LG g), dobL g (LG g), aobL g (LG g), bobL g (LG g)], WF g.evs.length L := wfs_cons (wf_obs hn) (wfs_cons (wf_dob hn) (wfs_cons (wf_aob hn) (wfs_cons (wf_bob hn) (wfs_nil _))))
theorem int_wfs (g : Gr) : ∀ L ∈ [interL (LG g 0) (LG g 5), LG g 1, LG g 2, LG g 3], WF g.evs.length L := wfs_cons (wf_inter (wf_LG g 0) (wf_LG g 5)) (wfs_cons (wf_LG g 1) (wfs_cons (wf_LG g 2) (wfs_cons (wf_LG g 3) (wfs_nil _))))
set_option maxHeartbeats 8000000 in
theorem ob_iff (hn : g.evs.length ≤ 256) : hs (obL g (LG g)) p q ↔ ∃ i, i < 17 ∧ ClP g i p q := by
  unfold obL
  rw [hs_unN (n := g.evs.length) (ob_wfs hn) (List.cons_ne_nil _ _)]
  simp only [List.mem_cons, List.not_mem_nil, or_false, exists_eq_or_imp, exists_eq_left]
  rw [obs_iff hn, dob_iff hn, aob_iff hn, bob_iff hn]
  constructor
  · rintro (⟨i, h1, h2, h⟩ | ⟨i, h1, h2, h⟩ | ⟨i, h1, h2, h⟩ | ⟨i, h1, h2, h⟩) <;> exact ⟨i, by omega, h⟩
  · rintro ⟨i, hi, h⟩
    by_cases h1 : i < 3
    · exact .inl ⟨i, by omega, h1, h⟩
    by_cases h2 : i < 9
    · exact .inr (.inl ⟨i, by omega, h2, h⟩)
    by_cases h3 : i < 11
    · exact .inr (.inr (.inl ⟨i, by omega, h3, h⟩))
    exact .inr (.inr (.inr ⟨i, by omega, hi, h⟩))
theorem wf_ob (hn : g.evs.length ≤ 256) : WF g.evs.length (obL g (LG g)) := wf_unN (ob_wfs hn) (List.cons_ne_nil _ _)
theorem int_iff : hs (intL (LG g)) p q ↔ (Rg g 0 p q ∧ Rg g 5 p q) ∨ Rg g 1 p q ∨ Rg g 2 p q ∨ Rg g 3 p q := by
  unfold intL
  rw [hs_unN (n := g.evs.length) (int_wfs g) (List.cons_ne_nil _ _)]
  simp only [List.mem_cons, List.not_mem_nil, or_false, exists_eq_or_imp, exists_eq_left, hs_inter (wf_LG g 0) (wf_LG g 5)]
theorem wf_int : WF g.evs.length (intL (LG g)) := wf_unN (int_wfs g) (List.cons_ne_nil _ _)
end
end Go.Proofs.YtmmadkghojoniaaGreatDoor
namespace Go.Proofs.YtmmadkghojoniaaGreatDoor
open Go.RowKit Go.Shelf Sx Relation
section
variable {g : Gr} {p q : Nat}
theorem rg_of {k : Nat} {F : Nat → Nat → Bool} (e : LG g k = canL g.evs.length F) : Rg g k p q ↔ p < g.evs.length ∧ q < g.evs.length ∧ F p q = true := by
  unfold Rg
  rw [e]
  constructor
  · exact hs_can
  · rintro ⟨hp, hq, h⟩
    unfold hs
    rw [gr_canL _ _ hp, testBit_rowK, decide_eq_true hq, h]
    rfl
theorem rg0 : Rg g 0 p q ↔ p < g.evs.length ∧ q < g.evs.length ∧ poB g.evs p q = true := rg_of rfl
theorem rg1 : Rg g 1 p q ↔ p < g.evs.length ∧ q < g.evs.length ∧ memB g.rf p q = true := rg_of rfl
theorem rg2 : Rg g 2 p q ↔ p < g.evs.length ∧ q < g.evs.length ∧ coB g p q = true := rg_of rfl
theorem rg3 : Rg g 3 p q ↔ p < g.evs.length ∧ q < g.evs.length ∧ frB g p q = true := rg_of rfl
theorem rg4 : Rg g 4 p q ↔ p < g.evs.length ∧ q < g.evs.length ∧ memB g.rmw p q = true := rg_of rfl
theorem rg5 : Rg g 5 p q ↔ p < g.evs.length ∧ q < g.evs.length ∧ sameEv g.evs p q = true := rg_of rfl
theorem rg6 : Rg g 6 p q ↔ p < g.evs.length ∧ q < g.evs.length ∧ extB g.evs p q = true := rg_of rfl
theorem rg7 : Rg g 7 p q ↔ p < g.evs.length ∧ q < g.evs.length ∧ memB g.addr p q = true := rg_of rfl
theorem rg8 : Rg g 8 p q ↔ p < g.evs.length ∧ q < g.evs.length ∧ memB g.dat p q = true := rg_of rfl
theorem rg9 : Rg g 9 p q ↔ p < g.evs.length ∧ q < g.evs.length ∧ memB g.ctrl p q = true := rg_of rfl
def Thr (g : Gr) (p q : Nat) : Prop := (g.ev p).t = (g.ev q).t
theorem Thr.trans {a b c : Nat} (h : Thr g a b) (k : Thr g b c) : Thr g a c := Eq.trans h k
theorem ok_zero {l : List Int} (h : ArOK g 0 l) : CycOK (intL (LG g)) [] ∧ CycOK (obL g (LG g)) [] ∧ torn g = [] := by
  obtain ⟨o1, h1, h2⟩ := h
  rcases h2 with ⟨_, e, _⟩ | ⟨rfl, o2, h3, h4⟩
  · cases e
  · rcases h4 with ⟨_, e, _⟩ | ⟨rfl, h5⟩
    · cases e
    · rcases h5 with ⟨_, e, _⟩ | ⟨h6, _, _⟩
      · cases e
      · exact ⟨h1, h3, h6⟩
end
end Go.Proofs.YtmmadkghojoniaaGreatDoor
namespace Go.Proofs.YtmmadkghojoniaaGreatDoor
open Go.RowKit Go.Shelf Sx Relation
def cycB (L : List Nat) : Bool := loopsL (plusL L) != 0
theorem cyc_iff {n : Nat} {L o : List Nat} (hn : n ≤ 256) (hw : WF n L) (h : CycOK L o) : o = [] ↔ cycB L = false := by
  have hlt : loopsL (plusL L) < 2 ^ 256 := Nat.lt_of_lt_of_le (loopsL_lt _) (Nat.pow_le_pow_right (by omega) (by rw [plusL_length, hw.len]; exact hn))
  unfold cycB
  rcases h with ⟨h1, rfl⟩ | ⟨s, tl, ly, h1, _, rfl⟩
  · refine ⟨fun _ => ?_, fun _ => rfl⟩
    have : loopsL (plusL L) = 0 := by
      refine Nat.eq_of_testBit_eq (fun q => ?_)
      rw [Nat.zero_testBit]
      cases e : (loopsL (plusL L)).testBit q
      · rfl
      · by_cases hq : q < 256
        · have : q ∈ bitsOf (loopsL (plusL L)) := mem_bitsOf.2 ⟨hq, e⟩
          rw [h1] at this
          cases this
        · have := Nat.testBit_lt_two_pow (Nat.lt_of_lt_of_le hlt (Nat.pow_le_pow_right (by omega) (show 256 ≤ q by omega)))
          rw [e] at this
          cases this
    rw [this]
    rfl
  · refine ⟨fun h => (by cases h), fun h => ?_⟩
    have h2 : s ∈ bitsOf (loopsL (plusL L)) := by rw [h1]; simp
    have h3 := (mem_bitsOf.1 h2).2
    rw [show loopsL (plusL L) = 0 by simpa using h, Nat.zero_testBit] at h3
    cases h3
theorem cycB_iff {n : Nat} {L : List Nat} (hw : WF n L) : cycB L = true ↔ ∃ p, TransGen (hs L) p p := by
  have key : loopsL (plusL L) = 0 ↔ ∀ p, ¬ TransGen (hs L) p p := by
    rw [loops_zero]
    exact ⟨fun h p hp => h p ((hs_plus hw p p).2 hp), fun h p hp => h p ((hs_plus hw p p).1 hp)⟩
  unfold cycB
  constructor
  · intro h
    apply Classical.byContradiction
    intro hno
    rw [key.2 (fun p hp => hno ⟨p, hp⟩)] at h
    cases h
  · rintro ⟨p, hp⟩
    cases e : loopsL (plusL L) != 0
    · exact absurd hp (key.1 (by simpa using e) p)
    · rfl
def axV (g : Gr) : Int := if cycB (intL (LG g)) then 1 else if cycB (obL g (LG g)) then 2 else if (torn g).isEmpty then 0 else 3
def axT (g : Gr) : Int := if (chk g true).1 = 0 then axV g else 0
def erV (g : Gr) : Int := if (chk g true).1 = 0 then 0 else 4
theorem ax_of {g : Gr} {ax : Int} {l : List Int} (hn : g.evs.length ≤ 256) (h : ArOK g ax l) : ax = axV g := by
  obtain ⟨o1, h1, h2⟩ := h
  have c1 := cyc_iff hn wf_int h1
  unfold axV
  rcases h2 with ⟨hne, rfl, _⟩ | ⟨rfl, o2, h3, h4⟩
  · have : cycB (intL (LG g)) = true := by
      cases e : cycB (intL (LG g))
      · exact absurd (c1.2 e) hne
      · rfl
    rw [this]
    rfl
  · rw [c1.1 rfl]
    have c2 := cyc_iff hn (wf_ob hn) h3
    rcases h4 with ⟨hne, rfl, _⟩ | ⟨rfl, h5⟩
    · have : cycB (obL g (LG g)) = true := by
        cases e : cycB (obL g (LG g))
        · exact absurd (c2.2 e) hne
        · rfl
      rw [this]
      rfl
    · rw [c2.1 rfl]
      rcases h5 with ⟨h6, rfl, _⟩ | ⟨h6, rfl, _⟩
      · cases ht : torn g with
        | nil => exact absurd ht h6
        | cons x t => rfl
      · rw [h6]
        rfl
theorem ans_of {g : Gr} {ax : Int} {l : List Int} {e : Int} (h : ArAns g ax l e) : ax = axT g ∧ e = erV g := by
  unfold axT erV
  rcases h with ⟨h1, rfl, _, rfl⟩ | ⟨h1, rfl, h2⟩
  · rw [if_neg h1, if_neg h1]; exact ⟨rfl, rfl⟩
  · rw [if_pos h1, if_pos h1]
    exact ⟨ax_of (wf_len (show wfB g = true by unfold wfB; rw [h1]; simp)) h2, rfl⟩
end Go.Proofs.YtmmadkghojoniaaGreatDoor
namespace Go.Proofs.YtmmadkghojoniaaGreatDoor
open Go.RowKit Go.Shelf Sx Relation
def Mw (a b : Int) : Prop := a = b ∨ (a = 16 ∧ b = 12) ∨ (a = 11 ∧ (b = 12 ∨ b = 13 ∨ b = 16)) ∨ (a = 14 ∧ b = 15)
theorem Mw.refl (a : Int) : Mw a a := .inl rfl
theorem Mw.eleven {a : Int} (h : Mw a 11) : a = 11 := by
  rcases h with h | h | h | h
  · exact h
  · omega
  · omega
  · omega
theorem Mw.may {k a b : Int} (h : Mw a b) (hk : k = 1 ∨ k = 2 ∨ k = 3) (hb : mayB k b true = true) : mayB k a true = true := by
  rcases h with rfl | ⟨rfl, rfl⟩ | ⟨rfl, rfl | rfl | rfl⟩ | ⟨rfl, rfl⟩
  · exact hb
  all_goals
    rcases hk with rfl | rfl | rfl <;> revert hb <;> decide
structure Wa (g h : Gr) : Prop where
  cells : h.cells = g.cells
  rf : h.rf = g.rf
  co : h.co = g.co
  rmw : h.rmw = g.rmw
  addr : h.addr.Sublist g.addr
  dat : h.dat.Sublist g.dat
  ctrl : h.ctrl.Sublist g.ctrl
  len : h.evs.length = g.evs.length
  ev : ∀ i, i < g.evs.length → (h.ev i).t = (g.ev i).t ∧ (h.ev i).k = (g.ev i).k ∧ (h.ev i).l = (g.ev i).l ∧ (h.ev i).v = (g.ev i).v ∧ Mw (h.ev i).m (g.ev i).m
section
variable {g h : Gr} {p q : Nat}
theorem ev_out {g : Gr} {i : Nat} (hi : g.evs.length ≤ i) : g.ev i = Ev.zero := by
  unfold Gr.ev
  rw [List.getD_eq_getElem?_getD, List.getElem?_eq_none hi]
  rfl
theorem Wa.all (w : Wa g h) (i : Nat) : (h.ev i).t = (g.ev i).t ∧ (h.ev i).k = (g.ev i).k ∧ (h.ev i).l = (g.ev i).l ∧ (h.ev i).v = (g.ev i).v ∧ Mw (h.ev i).m (g.ev i).m := by
  by_cases hi : i < g.evs.length
  · exact w.ev i hi
  · rw [ev_out (g := h) (by rw [w.len]; omega), ev_out (g := g) (by omega)]
    exact ⟨rfl, rfl, rfl, rfl, Mw.refl _⟩
theorem Wa.t (w : Wa g h) (i : Nat) : (h.evs.getD i Ev.zero).t = (g.evs.getD i Ev.zero).t := (w.all i).1
theorem Wa.k (w : Wa g h) (i : Nat) : (h.evs.getD i Ev.zero).k = (g.evs.getD i Ev.zero).k := (w.all i).2.1
theorem Wa.l (w : Wa g h) (i : Nat) : (h.evs.getD i Ev.zero).l = (g.evs.getD i Ev.zero).l := (w.all i).2.2.1
theorem Wa.v (w : Wa g h) (i : Nat) : (h.evs.getD i Ev.zero).v = (g.evs.getD i Ev.zero).v := (w.all i).2.2.2.1
theorem Wa.po (w : Wa g h) (a b : Nat) : poB h.evs a b = poB g.evs a b := by unfold poB; rw [w.t, w.t]
theorem Wa.isb (w : Wa g h) (i : Int) (ks : List Int) : isB h.evs i ks = isB g.evs i ks := by unfold isB; rw [w.len, w.k]
theorem Wa.ts (w : Wa g h) : h.evs.map (·.t) = g.evs.map (·.t) := by
  refine List.ext_getElem (by rw [List.length_map, List.length_map, w.len]) (fun i h1 h2 => ?_)
  rw [List.length_map] at h1 h2
  have := w.t i
  rw [List.getD_eq_getElem?_getD, List.getD_eq_getElem?_getD, List.getElem?_eq_getElem h1, List.getElem?_eq_getElem h2] at this
  simpa using this
theorem gap_any (l : List Ev) (a x : Nat) (c : Int) : (gapL l a x).any (fun e => e.t == c) = (((l.map (·.t)).take x).drop (a + 1)).any (fun t => t == c) := by
  unfold gapL
  rw [← List.map_take, ← List.map_drop, List.any_map]
  rfl
theorem Wa.oku (w : Wa g h) (p : Int × Int) : okU h.evs p = okU g.evs p := by
  unfold okU okUa
  rw [w.isb, w.isb, w.po, w.l, w.l, gap_any, gap_any, w.ts, w.t]
theorem Wa.rds (w : Wa g h) : h.reads = g.reads := by
  unfold Gr.reads numK
  rw [w.len]
  refine List.filter_congr (fun i _ => ?_)
  show ((h.evs.getD i Ev.zero).k == 1) = ((g.evs.getD i Ev.zero).k == 1)
  rw [w.k]
theorem Wa.wr (w : Wa g h) (c : Int) : wrs h c h.evs.length = wrs g c g.evs.length := by
  unfold wrs
  rw [w.len]
  congr 1
  refine List.filter_congr (fun i _ => ?_)
  unfold isWr
  rw [show (h.ev i).k = (g.ev i).k from w.k i, show (h.ev i).l = (g.ev i).l from w.l i]
theorem fst_congr {P R : Nat → Bool} : ∀ (f a : Nat), (∀ i, P i = R i) → fstBad P a f = fstBad R a f := fun f a e => by rw [show P = R from funext e]
theorem Wa.b4 (w : Wa g h) : bad4 h = bad4 g := by
  unfold bad4
  dsimp only
  have e : ∀ i, (!(ok4a h i (h.rf.getD i (0, 0)) && ok4b h (h.rf.getD i (0, 0)))) = (!(ok4a g i (g.rf.getD i (0, 0)) && ok4b g (g.rf.getD i (0, 0)))) := fun i => by
    rw [w.rf]
    unfold ok4a ok4b
    rw [w.rds, w.isb]
    have e1 := fun j => (w.all j).2.2.1
    have e2 := fun j => (w.all j).2.2.2.1
    rw [e1, e1, e2, e2]
  rw [fst_congr _ _ e, w.rf, w.rds]
theorem Wa.b5 (w : Wa g h) : bad5 h = bad5 g := by
  unfold bad5
  have e : ∀ c, bad5c h c = bad5c g c := fun c => by
    unfold bad5c
    rw [w.co, w.wr]
  rw [fst_congr _ _ e, w.co, w.cells]
theorem Wa.b6 (w : Wa g h) : bad6 h = bad6 g := by
  unfold bad6
  rw [w.rmw]
  exact fst_congr _ _ (fun i => by rw [w.oku])
theorem cmpP_lt {a b : Int × Int} : cmpP a b < 0 ↔ a.1 < b.1 ∨ (a.1 = b.1 ∧ a.2 < b.2) := by
  unfold cmpP orI cmpI
  by_cases h1 : a.1 < b.1
  · simp [h1]
  · by_cases h2 : b.1 < a.1
    · simp [h1, h2]; omega
    · have e : a.1 = b.1 := by omega
      by_cases h3 : a.2 < b.2
      · simp [h3, e]
      · by_cases h4 : b.2 < a.2
        · simp [h1, h2, h3, h4]
        · simp [h1, h2, h3, h4]
def Rise (a b : Int × Int) : Prop := cmpP a b < 0
theorem Rise.trans {a b c : Int × Int} (h : Rise a b) (k : Rise b c) : Rise a c := by
  unfold Rise at *
  rw [cmpP_lt] at *
  omega
theorem rise_pw {l : List (Int × Int)} : (∀ i, i < l.length → okDa true l i = true) ↔ l.Pairwise Rise := by
  rw [List.pairwise_iff_getElem]
  constructor
  · intro h
    have key : ∀ d i (h1 : i < l.length) (h2 : i + 1 + d < l.length), Rise l[i] l[i + 1 + d] := by
      intro d
      have one : ∀ i (h1 : i < l.length) (h2 : i + 1 < l.length), Rise l[i] l[i + 1] := fun i h1 h2 => by
        have := h (i + 1) h2
        unfold okDa at this
        simp only [Nat.add_eq_zero_iff, Nat.one_ne_zero, and_false, decide_false, Bool.false_or, Bool.true_and, decide_eq_true_eq, Nat.add_sub_cancel] at this
        rw [List.getD_eq_getElem?_getD, List.getD_eq_getElem?_getD, List.getElem?_eq_getElem h1, List.getElem?_eq_getElem h2] at this
        exact this
      induction d with
      | zero => exact fun i h1 h2 => one i h1 h2
      | succ d ih => exact fun i h1 h2 => (ih i h1 (by omega)).trans (one (i + 1 + d) (by omega) h2)
    intro i j hi hj hij
    obtain ⟨d, rfl⟩ : ∃ d, j = i + 1 + d := ⟨j - (i + 1), by omega⟩
    exact key d i hi hj
  · intro h i hi
    unfold okDa
    by_cases e : i = 0
    · simp [e]
    · have := h (i - 1) i (by omega) hi (by omega)
      have h1 : i - 1 < l.length := by omega
      rw [List.getD_eq_getElem?_getD, List.getD_eq_getElem?_getD, List.getElem?_eq_getElem h1, List.getElem?_eq_getElem hi]
      unfold Rise at this
      simp [this]
theorem badD_iff {evs : List Ev} {l : List (Int × Int)} {ks : List Int} : badD evs true l ks = -1 ↔ l.Pairwise Rise ∧ ∀ p ∈ l, okDb evs p ks = true := by
  unfold badD
  constructor
  · intro h
    have h2 := fst_all h
    have h3 : ∀ i, i < l.length → okDa true l i = true ∧ okDb evs (l.getD i (0, 0)) ks = true := fun i hi => by
      have := h2 i (Nat.zero_le _) (by omega)
      simpa using this
    refine ⟨rise_pw.1 (fun i hi => (h3 i hi).1), fun p hp => ?_⟩
    obtain ⟨i, hi, rfl⟩ := List.mem_iff_getElem.1 hp
    have := (h3 i hi).2
    rw [List.getD_eq_getElem?_getD, List.getElem?_eq_getElem hi] at this
    exact this
  · rintro ⟨h1, h2⟩
    refine fstBad_none (fun i _ hi => ?_)
    have hi : i < l.length := by omega
    rw [rise_pw.2 h1 i hi, List.getD_eq_getElem?_getD, List.getElem?_eq_getElem hi]
    simp [h2 _ (List.getElem_mem hi)]
theorem Wa.bD (w : Wa g h) {l l' : List (Int × Int)} (hs : l'.Sublist l) {ks : List Int} (hb : badD g.evs true l ks = -1) : badD h.evs true l' ks = -1 := by
  rw [badD_iff] at hb ⊢
  refine ⟨hb.1.sublist hs, fun p hp => ?_⟩
  have := hb.2 p (hs.subset hp)
  unfold okDb at this ⊢
  rw [w.isb, w.isb, w.po]
  exact this
theorem Ev.eq_of {a b : Ev} (h1 : a.t = b.t) (h2 : a.k = b.k) (h3 : a.l = b.l) (h4 : a.v = b.v) (h5 : a.m = b.m) : a = b := by
  obtain ⟨x1, x2, x3, x4, x5⟩ := a
  obtain ⟨y1, y2, y3, y4, y5⟩ := b
  dsimp only at h1 h2 h3 h4 h5
  subst h1 h2 h3 h4 h5
  rfl
theorem chk_of {g : Gr} {q : Bool} (h : ∀ j, j < 9 → rl g q j = -1) : (chk g q).1 = 0 := by
  unfold chk
  have := chkF_skip (g := g) (q := q) (i := 0) (f := 0) (k := 9) (fun j _ h2 => h j (by omega))
  rw [Nat.zero_add] at this
  rw [this]
  rfl
theorem Wa.ck (w : Wa g h) (hg : (chk g true).1 = 0) : (chk h true).1 = 0 := by
  have R : Wf g true := chk_zero hg
  have r0 : (if bad1 g then (0 : Int) else -1) = -1 := R 0 (by omega)
  have b1 : bad1 g = false := by cases e : bad1 g; rfl; rw [e] at r0; simp at r0
  have hcl : g.cells.toNat ≤ g.evs.length := by
    unfold bad1 at b1
    simp at b1
    omega
  have r1 : bad2 g true = -1 := R 1 (by omega)
  have r2 : bad3 g true = -1 := R 2 (by omega)
  refine chk_of (fun j hj => ?_)
  match j, hj with
  | 0, _ =>
    show (if bad1 h then (0 : Int) else -1) = -1
    have : bad1 h = bad1 g := by unfold bad1; rw [w.cells, w.len]
    rw [this, b1]
    rfl
  | 1, _ =>
    show bad2 h true = -1
    unfold bad2
    refine fstBad_none (fun i _ hi => ?_)
    rw [w.cells] at hi
    have e := ok2_ev r1 (c := i) (by omega)
    have a := w.all i
    rw [e] at a
    have : h.ev i = iniEv i true := Ev.eq_of a.1 a.2.1 a.2.2.1 a.2.2.2.1 (Mw.eleven a.2.2.2.2)
    exact @decide_eq_false _ (Ev.ndec _ _) (fun hne => hne this)
  | 2, _ =>
    show bad3 h true = -1
    unfold bad3
    refine fstBad_none (fun i h1 hi => ?_)
    rw [w.cells] at h1 hi
    rw [w.len] at hi
    have hi2 : i < g.evs.length := by omega
    have e := ok3_ev r2 (i := i) (by omega) hi2
    obtain ⟨a1, a2, a3, a4, a5⟩ := w.all i
    unfold okEv at e
    have hk : (g.ev i).k = 1 ∨ (g.ev i).k = 2 ∨ (g.ev i).k = 3 := by
      simp only [Bool.and_eq_true, decide_eq_true_eq] at e
      omega
    have e2 := e
    simp only [Bool.and_eq_true] at e2
    have hm := a5.may hk e2.2
    unfold okEv
    rw [w.cells, a1, a2, a3, a4, hm]
    simp only [Bool.and_eq_true] at e ⊢
    simp [e.1]
  | 3, _ => show bad4 h = -1; rw [w.b4]; exact R 3 (by omega)
  | 4, _ => show bad5 h = -1; rw [w.b5]; exact R 4 (by omega)
  | 5, _ => show bad6 h = -1; rw [w.b6]; exact R 5 (by omega)
  | 6, _ => exact w.bD w.addr (R 6 (by omega))
  | 7, _ => exact w.bD w.dat (R 7 (by omega))
  | 8, _ => exact w.bD w.ctrl (R 8 (by omega))
theorem Wa.rg (w : Wa g h) {k : Nat} (hk : k < 7) : Rg h k p q ↔ Rg g k p q := by
  match k, hk with
  | 0, _ => rw [rg0, rg0, w.len, w.po]
  | 1, _ => rw [rg1, rg1, w.len, w.rf]
  | 2, _ => rw [rg2, rg2, w.len]; unfold coB; rw [w.co]
  | 3, _ => rw [rg3, rg3, w.len]; unfold frB coB; rw [w.co, w.rf, w.len]
  | 4, _ => rw [rg4, rg4, w.len, w.rmw]
  | 5, _ => rw [rg5, rg5, w.len]; unfold sameEv sameB; rw [w.k, w.k, w.l, w.l]
  | 6, _ => rw [rg6, rg6, w.len]; unfold extB; rw [w.t, w.t]
theorem mem_sub {l l' : List (Int × Int)} (hs : l'.Sublist l) (h : memB l' p q = true) : memB l p q = true := decide_eq_true (hs.subset (of_decide_eq_true h))
theorem Wa.r7 (w : Wa g h) (k : Rg h 7 p q) : Rg g 7 p q := by
  rw [rg7] at k ⊢
  rw [w.len] at k
  exact ⟨k.1, k.2.1, mem_sub w.addr k.2.2⟩
theorem Wa.r8 (w : Wa g h) (k : Rg h 8 p q) : Rg g 8 p q := by
  rw [rg8] at k ⊢
  rw [w.len] at k
  exact ⟨k.1, k.2.1, mem_sub w.dat k.2.2⟩
theorem Wa.r9 (w : Wa g h) (k : Rg h 9 p q) : Rg g 9 p q := by
  rw [rg9] at k ⊢
  rw [w.len] at k
  exact ⟨k.1, k.2.1, mem_sub w.ctrl k.2.2⟩
theorem Wa.kd (w : Wa g h) (i : Nat) : (h.ev i).k = (g.ev i).k := w.k i
theorem m1 {a b : Int} (h : Mw a b) (ha : a ∈ ([12, 16] : List Int)) : b ∈ ([12, 16] : List Int) := by
  simp only [List.mem_cons, List.not_mem_nil, or_false] at ha ⊢
  unfold Mw at h
  omega
theorem m2 {a b : Int} (h : Mw a b) (ha : a ∈ ([12] : List Int)) : b ∈ ([12] : List Int) := by
  simp only [List.mem_cons, List.not_mem_nil, or_false] at ha ⊢
  unfold Mw at h
  omega
theorem m3 {a b : Int} (h : Mw a b) (ha : a ∈ ([13] : List Int)) : b ∈ ([13] : List Int) := by
  simp only [List.mem_cons, List.not_mem_nil, or_false] at ha ⊢
  unfold Mw at h
  omega
theorem m4 {a b : Int} (h : Mw a b) (ha : a ∈ ([15] : List Int)) : b ∈ ([15] : List Int) := by
  simp only [List.mem_cons, List.not_mem_nil, or_false] at ha ⊢
  unfold Mw at h
  omega
theorem m5 {a b : Int} (h : Mw a b) (ha : a ∈ ([14] : List Int)) : b ∈ ([14] : List Int) ∨ b ∈ ([15] : List Int) := by
  simp only [List.mem_cons, List.not_mem_nil, or_false] at ha ⊢
  unfold Mw at h
  omega
theorem Wa.cl (w : Wa g h) {i : Nat} (hi : i < 17) (k : ClP h i p q) : ∃ j, j < 17 ∧ ClP g j p q := by
  have M := fun i => (w.all i).2.2.2.2
  have K := w.kd
  match i, hi, k with
  | 0, _, k => exact ⟨0, by omega, (w.rg (by omega)).1 k.1, (w.rg (by omega)).1 k.2⟩
  | 1, _, k => exact ⟨1, by omega, (w.rg (by omega)).1 k.1, (w.rg (by omega)).1 k.2⟩
  | 2, _, k => exact ⟨2, by omega, (w.rg (by omega)).1 k.1, (w.rg (by omega)).1 k.2⟩
  | 3, _, k => exact ⟨3, by omega, w.r7 k⟩
  | 4, _, k => exact ⟨4, by omega, w.r8 k⟩
  | 5, _, k => exact ⟨5, by omega, w.r9 k.1, (K q).symm.trans k.2⟩
  | 6, _, ⟨m, h1, h2, h3⟩ => exact ⟨6, by omega, m, w.r7 h1, (w.rg (by omega)).1 h2, (K q).symm.trans h3⟩
  | 7, _, ⟨m, h1, h2, h3⟩ => exact ⟨7, by omega, m, h1.elim (fun k => .inl (w.r9 k)) (fun k => .inr (w.r8 k)), (w.rg (by omega)).1 h2, fun k => h3 ((w.rg (by omega)).2 k)⟩
  | 8, _, ⟨m, h1, h2, h3⟩ => exact ⟨8, by omega, m, h1.elim (fun k => .inl (w.r7 k)) (fun k => .inr (w.r8 k)), (w.rg (by omega)).1 h2, fun k => h3 ((w.rg (by omega)).2 k)⟩
  | 9, _, k => exact ⟨9, by omega, (w.rg (by omega)).1 k⟩
  | 10, _, ⟨⟨m, h0, h1⟩, h2, h3⟩ => exact ⟨10, by omega, ⟨m, (K m).symm.trans h0, (w.rg (by omega)).1 h1⟩, ⟨(w.rg (by omega)).1 h2.1, fun k => h2.2 ((w.rg (by omega)).2 k)⟩, m1 (M q) h3⟩
  | 11, _, ⟨m, h1, h2, h3⟩ => exact ⟨11, by omega, m, (w.rg (by omega)).1 h1, m4 (M m) h2, (w.rg (by omega)).1 h3⟩
  | 12, _, ⟨h0, m, h1, h2, h3⟩ =>
    rcases m5 (M m) h2 with h4 | h4
    · exact ⟨12, by omega, (K p).symm.trans h0, m, (w.rg (by omega)).1 h1, h4, (w.rg (by omega)).1 h3⟩
    · exact ⟨11, by omega, m, (w.rg (by omega)).1 h1, h4, (w.rg (by omega)).1 h3⟩
  | 13, _, ⟨h1, h2, h3⟩ => exact ⟨13, by omega, m3 (M p) h1, (w.rg (by omega)).1 h2, m2 (M q) h3⟩
  | 14, _, ⟨h1, h2⟩ => exact ⟨14, by omega, m1 (M p) h1, (w.rg (by omega)).1 h2⟩
  | 15, _, ⟨h1, h2⟩ => exact ⟨15, by omega, (w.rg (by omega)).1 h1, m3 (M q) h2⟩
  | 16, _, ⟨m, ⟨h1, h2⟩, h3⟩ => exact ⟨16, by omega, m, ⟨(w.rg (by omega)).1 h1, m3 (M m) h2⟩, (w.rg (by omega)).1 h3.1, fun k => h3.2 ((w.rg (by omega)).2 k)⟩
  | n + 17, hi, _ => omega
theorem Wa.ob (w : Wa g h) (hn : g.evs.length ≤ 256) (k : hs (obL h (LG h)) p q) : hs (obL g (LG g)) p q := by
  obtain ⟨i, hi, k⟩ := (ob_iff (g := h) (by rw [w.len]; exact hn)).1 k
  exact (ob_iff hn).2 (w.cl hi k)
theorem Wa.int (w : Wa g h) (k : hs (intL (LG h)) p q) : hs (intL (LG g)) p q := by
  rw [int_iff] at k ⊢
  rwa [w.rg (by omega), w.rg (by omega), w.rg (by omega), w.rg (by omega), w.rg (by omega)] at k
theorem LG_eq {k : Nat} (e : g.evs.length = h.evs.length) (h1 : ∀ p q, Rg h k p q ↔ Rg g k p q) : LG h k = LG g k := by
  have a := wf_LG h k
  have b := wf_LG g k
  refine List.ext_getElem (by rw [a.len, b.len, e]) (fun i hi hj => ?_)
  have e1 : (LG h k)[i] = gr (LG h k) i := by have := gr_of hi; rw [List.getElem?_eq_getElem hi] at this; exact Option.some.inj this
  have e2 : (LG g k)[i] = gr (LG g k) i := by have := gr_of hj; rw [List.getElem?_eq_getElem hj] at this; exact Option.some.inj this
  rw [e1, e2]
  refine Nat.eq_of_testBit_eq (fun q => ?_)
  have := h1 i q
  unfold Rg hs at this
  rw [Bool.eq_iff_iff]
  exact this
theorem Wa.tn (w : Wa g h) : torn h = torn g := by
  unfold torn freL coeL
  rw [LG_eq (k := 3) w.len.symm (fun p q => w.rg (by omega)), LG_eq (k := 6) w.len.symm (fun p q => w.rg (by omega)), LG_eq (k := 2) w.len.symm (fun p q => w.rg (by omega)), w.rmw]
theorem cyc_some {n : Nat} {L o : List Nat} (hw : WF n L) (h : CycOK L o) (ho : o ≠ []) : ∃ p, TransGen (hs L) p p := by
  rcases h with ⟨_, e⟩ | ⟨s, tl, ly, e, _, _⟩
  · exact absurd e ho
  · have hs1 : s ∈ bitsOf (loopsL (plusL L)) := by rw [e]; simp
    have h2 := (mem_bitsOf.1 hs1).2
    unfold loopsL at h2
    rw [loops_bit] at h2
    exact ⟨s, (hs_plus hw s s).1 h2.2⟩
theorem Wa.ok (w : Wa g h) (hn : g.evs.length ≤ 256) {l l' : List Int} {b : Int} (hg : ArOK g 0 l) (hh : ArOK h b l') : b = 0 := by
  obtain ⟨hI, hO, hT⟩ := ok_zero hg
  have hn' : h.evs.length ≤ 256 := by rw [w.len]; exact hn
  obtain ⟨o1, h1, h2⟩ := hh
  rcases h2 with ⟨hne, _, _⟩ | ⟨rfl, o2, h3, h4⟩
  · obtain ⟨p, hp⟩ := cyc_some wf_int h1 hne
    exact absurd (trans_mono (fun _ _ k => w.int k) hp) (cyc_nil hn wf_int hI p)
  · rcases h4 with ⟨hne, _, _⟩ | ⟨rfl, h5⟩
    · obtain ⟨p, hp⟩ := cyc_some (wf_ob hn') h3 hne
      exact absurd (trans_mono (fun _ _ k => w.ob hn k) hp) (cyc_nil hn (wf_ob hn) hO p)
    · rcases h5 with ⟨h6, _, _⟩ | ⟨_, h6, _⟩
      · rw [w.tn, hT] at h6
        exact absurd rfl h6
      · exact h6
end
end Go.Proofs.YtmmadkghojoniaaGreatDoor
namespace Go.Proofs.YtmmadkghojoniaaGreatDoor
open Go.RowKit Go.Shelf Sx Relation
theorem Wa.axz {g h : Gr} (w : Wa g h) (hn : g.evs.length ≤ 256) (hI : CycOK (intL (LG g)) []) (hO : CycOK (obL g (LG g)) []) (hT : torn g = []) : axV h = 0 := by
  have hn' : h.evs.length ≤ 256 := by rw [w.len]; exact hn
  have c1 : cycB (intL (LG h)) = false := by
    cases e : cycB (intL (LG h))
    · rfl
    · obtain ⟨p, hp⟩ := (cycB_iff wf_int).1 e
      exact absurd (trans_mono (fun _ _ k => w.int k) hp) (cyc_nil hn wf_int hI p)
  have c2 : cycB (obL h (LG h)) = false := by
    cases e : cycB (obL h (LG h))
    · rfl
    · obtain ⟨p, hp⟩ := (cycB_iff (wf_ob hn')).1 e
      exact absurd (trans_mono (fun _ _ k => w.ob hn k) hp) (cyc_nil hn (wf_ob hn) hO p)
  unfold axV
  rw [c1, c2, w.tn, hT]
  rfl
end Go.Proofs.YtmmadkghojoniaaGreatDoor
