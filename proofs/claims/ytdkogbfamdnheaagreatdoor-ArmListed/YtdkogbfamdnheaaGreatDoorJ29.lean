import Derived.Test.YtdkogbfamdnheaaGreatDoorJ26
import Derived.Test.YtdkogbfamdnheaaGreatDoorGLawM
namespace Go.Proofs.YtdkogbfamdnheaaGreatDoor
open Go.RowKit Go.Shelf Sx Relation
set_option maxRecDepth 100000
set_option maxHeartbeats 16000000
set_option linter.unusedSimpArgs false
set_option linter.unusedVariables false
theorem QCf {n : Nat} {F : Nat → Nat → Bool} {p q : Nat} (h : hs (Qdk n F) p q) : p < n ∧ q < n ∧ F p q = true := by
 have hp := Qa5 h
 rw [Qep] at hp
 have h2 := h
 unfold hs at h2
 rw [Qkg n F hp, Qf, Bool.and_eq_true, decide_eq_true_iff] at h2
 exact ⟨hp, h2.1, h2.2⟩
theorem Qmr {n : Nat} (hn : n ≤ 256) {l : List Bool} {p q : Nat} (h : hs (Qa8 ((n : Nat) : Int) l) p q) : p = q ∧ l.getD p false = true := by
 unfold Qa8 at h
 rw [Qel hn] at h
 rw [Qiw _ _ (fun q hq => by rw [List.length_replicate]; exact ((Qgm hn l q).1 hq).1), Qgm hn] at h
 rcases h with h | h
 ·exact absurd h (Qi _ _ _)
 ·exact ⟨h.1, h.2.2⟩
theorem Qwt {n : Nat} (hn : n ≤ 256) (l : List Bool) : WF n (Qa8 ((n : Nat) : Int) l) := by
 refine ⟨by unfold Qa8; rw [Qhr, List.length_replicate, Qel hn], fun p q h => ?_⟩
 have hp := Qa5 h
 have := Qmr hn h
 unfold Qa8 at hp
 rw [Qhr, List.length_replicate, Qel hn] at hp
 omega
theorem Qq3 {P : Ev → Bool} {evs : List Ev} {p : Nat} (h : (Qd8 P evs).getD p false = true) : p < evs.length ∧ P (evs.getD p Ev.zero) = true := by
 unfold Qd8 at h
 rw [List.getD_eq_getElem?_getD, List.getElem?_map] at h
 cases he : evs[p]? with
 | none => rw [he] at h; simp at h
 | some e =>
  rw [he] at h
  simp at h
  refine ⟨(List.getElem?_eq_some_iff.1 he).1, ?_⟩
  rw [List.getD_eq_getElem?_getD, he]
  exact h
section
variable {g : Gr} {p q : Nat}
theorem Qj5 (hn : g.evs.length ≤ 256) {x : Int} (h : hs (Qa8 (g.evs.length : Int) (Qba g x)) p q) : p = q ∧ p < g.evs.length ∧ (g.ev p).k = x := by
 obtain ⟨h1, h2⟩ := Qmr hn h
 have h3 := Qq3 h2
 exact ⟨h1, h3.1, by have := h3.2; exact beq_iff_eq.1 this⟩
theorem Qfs (hn : g.evs.length ≤ 256) {ms : List Int} (h : hs (Qa8 (g.evs.length : Int) (mdL g ms)) p q) : p = q ∧ p < g.evs.length ∧ (g.ev p).m ∈ ms := by
 obtain ⟨h1, h2⟩ := Qmr hn h
 have h3 := Qq3 h2
 exact ⟨h1, h3.1, by have := h3.2; exact List.contains_iff_mem.1 this⟩
theorem Qbu (g : Gr) (i : Nat) : WF g.evs.length (LG g i) := by
 match i with
 | 0 => exact Qc8 _ _
 | 1 => exact Qc8 _ _
 | 2 => exact Qc8 _ _
 | 3 => exact Qc8 _ _
 | 4 => exact Qc8 _ _
 | 5 => exact Qc8 _ _
 | 6 => exact Qc8 _ _
 | 7 => exact Qc8 _ _
 | 8 => exact Qc8 _ _
 | n + 9 => exact Qc8 _ _
end
theorem Qsy {n : Nat} {L : List Nat} (hn : n ≤ 256) (hw : WF n L) (h : Qdg L []) : ∀ p, ¬ TransGen (hs L) p p := by
 intro p hp
 rcases h with ⟨e, _⟩ | ⟨s, tl, ly, _, _, e⟩
 ·have hl := (Qsh hw p p).2 hp
  have hpn := Qv2 hw hp
  have : p ∈ Qad (Qc (Qdw L)) := Qbk.2 ⟨oW, by
   unfold Qc
   rw [Qn2]
   exact ⟨by rw [Qju, hw.len]; exact hpn, hl⟩⟩
  rw [e] at this
  cases this
 ·cases e
theorem QAu {n : Nat} {L : List Nat} (hw : WF n L) {a b : Nat} : Qdj L ((a : Nat) : Int) ((b : Nat) : Int) = true ↔ hs L a b := by
 constructor
 ·intro h
  unfold Qdj at h
  simp only [Bool.and_eq_true] at h
  simpa [hs] using h.2.2
 ·intro h
  have ha := Qa5 h
  have hb := hw.low _ _ h
  rw [← hw.len] at hb
  unfold Qdj inR
  unfold hs at h
  simp [h, ha, hb]
theorem Qi9 {n : Nat} (hn : n ≤ 256) {l : List Bool} {p q : Nat} : hs (Qa8 ((n : Nat) : Int) l) p q ↔ p = q ∧ p < n ∧ l.getD p false = true := by
 unfold Qa8
 rw [Qel hn, Qiw _ _ (fun q hq => by rw [List.length_replicate]; exact ((Qgm hn l q).1 hq).1), Qgm hn]
 constructor
 ·rintro (h | h)
  ·exact absurd h (Qi _ _ _)
  ·exact h
 ·exact .inr
theorem Qq4 : ∀ (l : List Nat) (X : List Bool) (q : Nat), q < X.length → (Qeg X l)[q]? = some (decide (q ∈ l) || X.getD q false)
 | [], X, q, hq => by simp [Qeg, hq]
 | x :: l, X, q, hq => by
  show (Qeg (X.set x true) l)[q]? = _
  rw [Qq4 l _ q (by rw [List.length_set]; exact hq)]
  congr 1
  rw [List.getD_eq_getElem?_getD, List.getElem?_set]
  by_cases e : x = q
  ·subst e; simp [hq]
  ·rw [if_neg e]
   have e' : ¬ q = x := fun h => e h.symm
   simp [e', hq]
theorem Qsz {n : Nat} {L : List Nat} (hn : n ≤ 256) (hL : WF n L) {l : List Bool} {q : Nat} : (Qf4 L l).getD q false = true ↔ q < n ∧ ∃ m, l.getD m false = true ∧ hs L m q := by
 unfold Qf4
 have key : ∀ q, q ∈ Qad (Qaj L (Qad (Qca L.length l))) ↔ ∃ m, l.getD m false = true ∧ hs L m q := fun q => by
  rw [Qbk]
  unfold Qaj
  rw [Qjv]
  constructor
  ·rintro ⟨_, h | ⟨p, hp, h⟩⟩
   ·simp at h
   ·rw [hL.len, Qgm hn] at hp
    exact ⟨p, hp.2, h⟩
  ·rintro ⟨m, hm, h⟩
   refine ⟨Nat.lt_of_lt_of_le (hL.low _ _ h) hn, .inr ⟨m, ?_, h⟩⟩
   rw [hL.len, Qgm hn]
   exact ⟨by have := Qa5 h; rw [hL.len] at this; exact this, hm⟩
 by_cases hq : q < n
 ·rw [List.getD_eq_getElem?_getD, Qq4 _ _ q (by rw [List.length_replicate, hL.len]; exact hq), Option.getD_some, Bool.or_eq_true, decide_eq_true_iff, key]
  constructor
  ·rintro (h | h)
   ·exact ⟨hq, h⟩
   ·simp [List.getD_eq_getElem?_getD, hL.len, hq] at h
  ·exact fun h => .inl h.2
 ·constructor
  ·intro h
   rw [List.getD_eq_getElem?_getD, List.getElem?_eq_none (by rw [Qgu, List.length_replicate, hL.len]; omega)] at h
   cases h
  ·exact fun h => absurd h.1 hq
theorem Qq5 : ∀ (Ls : List (List Nat)) (X : List Nat), (Ls.foldl (fun A L => Qck A L L.length) X).length = X.length
 | [], _ => rfl
 | L :: Ls, X => by rw [List.foldl_cons, Qq5 Ls, Qa4]
theorem Qs0 {n : Nat} (p q : Nat) : ∀ (Ls : List (List Nat)) (X : List Nat), X.length = n → (∀ L ∈ Ls, WF n L) → (hs (Ls.foldl (fun A L => Qck A L L.length) X) p q ↔ hs X p q ∨ ∃ L ∈ Ls, hs L p q)
 | [], X, _, _ => by simp
 | L :: Ls, X, hX, h => by
  rw [List.foldl_cons, Qs0 p q Ls _ (by rw [Qa4, hX]) (fun M hM => h M (List.mem_cons_of_mem _ hM)), Qpz hX (h L List.mem_cons_self)]
  simp [or_assoc]
theorem Qyy {n : Nat} : ∀ (Ls : List (List Nat)) (k : Nat), k ≤ n → (∀ L ∈ Ls, WF n L) → Ls ≠ [] → Ls.foldl (fun n L => max n L.length) k = n
 | [], _, _, _, h => absurd rfl h
 | [L], k, hk, h, _ => by rw [List.foldl_cons, (h L List.mem_cons_self).len]; simp only [List.foldl]; omega
 | L :: M :: Ls, k, hk, h, _ => by
  rw [List.foldl_cons]
  exact Qyy (M :: Ls) _ (by rw [(h L List.mem_cons_self).len]; omega) (fun A hA => h A (List.mem_cons_of_mem _ hA)) sW
theorem Qgy {n : Nat} {Ls : List (List Nat)} (h : ∀ L ∈ Ls, WF n L) (hne : Ls ≠ []) (p q : Nat) : hs (Qa1 Ls) p q ↔ ∃ L ∈ Ls, hs L p q := by
 unfold Qa1
 rw [Qs0 (n := n) p q Ls _ (by rw [List.length_replicate]; exact Qyy Ls 0 (Nat.zero_le _) h hne) h]
 constructor
 ·rintro (h | h)
  ·exact absurd h (Qi _ _ _)
  ·exact h
 ·exact .inr
theorem Qig {n : Nat} {Ls : List (List Nat)} (h : ∀ L ∈ Ls, WF n L) (hne : Ls ≠ []) : WF n (Qa1 Ls) := by
 refine ⟨by unfold Qa1; rw [Qq5, List.length_replicate]; exact Qyy Ls 0 (Nat.zero_le _) h hne, fun p q k => ?_⟩
 obtain ⟨L, hL, k⟩ := (Qgy h hne p q).1 k
 exact (h L hL).low _ _ k
section
variable (g : Gr)
abbrev Rg (k p q : Nat) : Prop := hs (LG g k) p q
def ClP : Nat → Nat → Nat → Prop
 | 0, p, q => Rg g 1 p q ∧ Rg g 6 p q
 | 1, p, q => Rg g 2 p q ∧ Rg g 6 p q
 | 2, p, q => Rg g 3 p q ∧ Rg g 6 p q
 | 3, p, q => Rg g 7 p q
 | 4, p, q => Rg g 8 p q
 | 5, p, q => Rg g 9 p q ∧ (g.ev q).k = 2
 | 6, p, q => ∃ m, Rg g 7 p m ∧ Rg g 0 m q ∧ (g.ev q).k = 2
 | 7, p, q => ∃ m, (Rg g 9 p m ∨ Rg g 8 p m) ∧ Rg g 2 m q ∧ ¬ Rg g 6 m q
 | 8, p, q => ∃ m, (Rg g 7 p m ∨ Rg g 8 p m) ∧ Rg g 1 m q ∧ ¬ Rg g 6 m q
 | 9, p, q => Rg g 4 p q
 | 10, p, q => (∃ m, (g.ev m).k = 1 ∧ Rg g 4 m p) ∧ (Rg g 1 p q ∧ ¬ Rg g 6 p q) ∧ (g.ev q).m ∈ ([12, 16] : List Int)
 | 11, p, q => ∃ m, Rg g 0 p m ∧ (g.ev m).m ∈ ([15] : List Int) ∧ Rg g 0 m q
 | 12, p, q => (g.ev p).k = 1 ∧ ∃ m, Rg g 0 p m ∧ (g.ev m).m ∈ ([14] : List Int) ∧ Rg g 0 m q
 | 13, p, q => (g.ev p).m ∈ ([13] : List Int) ∧ Rg g 0 p q ∧ (g.ev q).m ∈ ([12] : List Int)
 | 14, p, q => (g.ev p).m ∈ ([12, 16] : List Int) ∧ Rg g 0 p q
 | 15, p, q => Rg g 0 p q ∧ (g.ev q).m ∈ ([13] : List Int)
 | _, p, q => ∃ m, (Rg g 0 p m ∧ (g.ev m).m ∈ ([13] : List Int)) ∧ Rg g 2 m q ∧ ¬ Rg g 6 m q
variable {g} {p q : Nat}
theorem Qnr (hn : g.evs.length ≤ 256) {x : Int} (hp : p < g.evs.length) : hs (Qa8 (g.evs.length : Int) (Qba g x)) p q ↔ p = q ∧ (g.ev p).k = x := by
 constructor
 ·exact fun h => ⟨(Qj5 hn h).1, (Qj5 hn h).2.2⟩
 ·rintro ⟨rfl, h⟩
  refine (Qi9 hn).2 ⟨rfl, hp, ?_⟩
  unfold Qba Qd8
  rw [List.getD_eq_getElem?_getD, List.getElem?_map, Gr.ev_at hp]
  simpa using h
theorem Qf1 (hn : g.evs.length ≤ 256) {ms : List Int} (hp : p < g.evs.length) : hs (Qa8 (g.evs.length : Int) (mdL g ms)) p q ↔ p = q ∧ (g.ev p).m ∈ ms := by
 constructor
 ·exact fun h => ⟨(Qfs hn h).1, (Qfs hn h).2.2⟩
 ·rintro ⟨rfl, h⟩
  refine (Qi9 hn).2 ⟨rfl, hp, ?_⟩
  unfold mdL Qd8
  rw [List.getD_eq_getElem?_getD, List.getElem?_map, Gr.ev_at hp]
  simpa using h
theorem Rg.l {k : Nat} (h : Rg g k p q) : p < g.evs.length := by have := Qa5 h; rw [(Qbu g k).len] at this; exact this
theorem Rg.r {k : Nat} (h : Rg g k p q) : q < g.evs.length := (Qbu g k).low _ _ h
theorem QCg (g : Gr) : clL g (LG g) 12 = Qe4 (Qe4 (Qe4 (Qa8 (g.evs.length : Int) (Qba g 1)) (LG g 0)) (Qa8 (g.evs.length : Int) (mdL g [14]))) (LG g 0) := by
 simp only [clL, Qa7, List.foldl, rdI, mdI]
theorem Qhi (hn : g.evs.length ≤ 256) (i : Nat) (hi : i < 17) : WF g.evs.length (clL g (LG g) i) := by
 have L := Qbu g
 have I : ∀ l, WF g.evs.length (Qa8 (g.evs.length : Int) l) := fun l => Qwt hn l
 match i, hi with
 | 0, _ => exact Qfc (L 1) (L 6)
 | 1, _ => exact Qfc (L 2) (L 6)
 | 2, _ => exact Qfc (L 3) (L 6)
 | 3, _ => exact L 7
 | 4, _ => exact L 8
 | 5, _ => exact Qas hn (L 9) (I _)
 | 6, _ => exact Qas hn (Qas hn (L 7) (L 0)) (I _)
 | 7, _ => exact Qas hn (Qis (L 9) (L 8)) (Qd0 (L 2) (L 6))
 | 8, _ => exact Qas hn (Qis (L 7) (L 8)) (Qd0 (L 1) (L 6))
 | 9, _ => exact L 4
 | 10, _ => exact Qas hn (Qas hn (I _) (Qd0 (L 1) (L 6))) (I _)
 | 11, _ => exact Qas hn (Qas hn (L 0) (I _)) (L 0)
 | 12, _ => rw [QCg]; exact Qas hn (Qas hn (Qas hn (I _) (L 0)) (I _)) (L 0)
 | 13, _ => exact Qas hn (Qas hn (I _) (L 0)) (I _)
 | 14, _ => exact Qas hn (I _) (L 0)
 | 15, _ => exact Qas hn (L 0) (I _)
 | 16, _ => exact Qas hn (Qas hn (L 0) (I _)) (Qd0 (L 2) (L 6))
 | n + 17, h => omega
theorem Qb3 (hn : g.evs.length ≤ 256) {i : Nat} (hi : i < 17) (p q : Nat) : hs (clL g (LG g) i) p q ↔ ClP g i p q := by
 have L := Qbu g
 have I : ∀ l, WF g.evs.length (Qa8 (g.evs.length : Int) l) := fun l => Qwt hn l
 match i, hi with
 | 0, _ => exact Qdh (L 1) (L 6) p q
 | 1, _ => exact Qdh (L 2) (L 6) p q
 | 2, _ => exact Qdh (L 3) (L 6) p q
 | 3, _ => exact Iff.rfl
 | 4, _ => exact Iff.rfl
 | 5, _ =>
  refine (Qap hn (L 9) (I _) p q).trans ⟨fun ⟨m, h1, h2⟩ => ?_, fun ⟨h1, h2⟩ => ⟨q, h1, (Qnr hn (Rg.r h1)).2 ⟨rfl, h2⟩⟩⟩
  obtain ⟨rfl, _, h3⟩ := Qj5 hn h2
  exact ⟨h1, h3⟩
 | 6, _ =>
  refine (Qap hn (Qas hn (L 7) (L 0)) (I _) p q).trans ⟨fun ⟨m, h1, h2⟩ => ?_, fun ⟨m, h1, h2, h3⟩ => ⟨q, (Qap hn (L 7) (L 0) p q).2 ⟨m, h1, h2⟩, (Qnr hn (Rg.r h2)).2 ⟨rfl, h3⟩⟩⟩
  obtain ⟨rfl, _, h3⟩ := Qj5 hn h2
  obtain ⟨x, h4, h5⟩ := (Qap hn (L 7) (L 0) p m).1 h1
  exact ⟨x, h4, h5, h3⟩
 | 7, _ =>
  refine (Qap hn (Qis (L 9) (L 8)) (Qd0 (L 2) (L 6)) p q).trans ⟨fun ⟨m, h1, h2⟩ => ⟨m, (Qgs (L 9) (L 8) p m).1 h1, (Qdi (L 2) (L 6) m q).1 h2⟩, fun ⟨m, h1, h2⟩ => ⟨m, (Qgs (L 9) (L 8) p m).2 h1, (Qdi (L 2) (L 6) m q).2 h2⟩⟩
 | 8, _ =>
  refine (Qap hn (Qis (L 7) (L 8)) (Qd0 (L 1) (L 6)) p q).trans ⟨fun ⟨m, h1, h2⟩ => ⟨m, (Qgs (L 7) (L 8) p m).1 h1, (Qdi (L 1) (L 6) m q).1 h2⟩, fun ⟨m, h1, h2⟩ => ⟨m, (Qgs (L 7) (L 8) p m).2 h1, (Qdi (L 1) (L 6) m q).2 h2⟩⟩
 | 9, _ => exact Iff.rfl
 | 10, _ =>
  have W1 := Qd0 (L 1) (L 6)
  refine (Qap hn (Qas hn (I _) W1) (I _) p q).trans ⟨fun ⟨m, h1, h2⟩ => ?_, fun ⟨⟨x, h0, h1⟩, h2, h3⟩ => ⟨q, (Qap hn (I _) W1 p q).2 ⟨p, (Qi9 hn).2 ⟨rfl, Rg.l h2.1, (Qsz hn (L 4)).2 ⟨Rg.r h1, x, ?_, h1⟩⟩, (Qdi (L 1) (L 6) p q).2 h2⟩, (Qf1 hn (Rg.r h2.1)).2 ⟨rfl, h3⟩⟩⟩
  ·obtain ⟨rfl, _, h3⟩ := Qfs hn h2
   obtain ⟨x, h4, h5⟩ := (Qap hn (I _) W1 p m).1 h1
   obtain ⟨rfl, h6⟩ := Qmr hn h4
   obtain ⟨_, y, h7, h8⟩ := (Qsz hn (L 4)).1 h6
   exact ⟨⟨y, beq_iff_eq.1 (Qq3 h7).2, h8⟩, (Qdi (L 1) (L 6) p m).1 h5, h3⟩
  ·unfold Qba Qd8
   rw [List.getD_eq_getElem?_getD, List.getElem?_map, Gr.ev_at (Rg.l h1)]
   simpa using h0
 | 11, _ =>
  refine (Qap hn (Qas hn (L 0) (I _)) (L 0) p q).trans ⟨fun ⟨m, h1, h2⟩ => ?_, fun ⟨m, h1, h2, h3⟩ => ⟨m, (Qap hn (L 0) (I _) p m).2 ⟨m, h1, (Qf1 hn (Rg.r h1)).2 ⟨rfl, h2⟩⟩, h3⟩⟩
  obtain ⟨x, h4, h5⟩ := (Qap hn (L 0) (I _) p m).1 h1
  obtain ⟨rfl, _, h6⟩ := Qfs hn h5
  exact ⟨x, h4, h6, h2⟩
 | 12, _ =>
  have W1 := Qas hn (I (Qba g 1)) (L 0)
  rw [QCg]
  refine (Qap hn (Qas hn W1 (I _)) (L 0) p q).trans ⟨fun ⟨m, h1, h2⟩ => ?_, fun ⟨h0, m, h1, h2, h3⟩ => ⟨m, (Qap hn W1 (I _) p m).2 ⟨m, (Qap hn (I _) (L 0) p m).2 ⟨p, (Qnr hn (Rg.l h1)).2 ⟨rfl, h0⟩, h1⟩, (Qf1 hn (Rg.r h1)).2 ⟨rfl, h2⟩⟩, h3⟩⟩
  obtain ⟨x, h4, h5⟩ := (Qap hn W1 (I _) p m).1 h1
  obtain ⟨rfl, _, h6⟩ := Qfs hn h5
  obtain ⟨y, h7, h8⟩ := (Qap hn (I _) (L 0) p x).1 h4
  obtain ⟨rfl, _, h9⟩ := Qj5 hn h7
  exact ⟨h9, x, h8, h6, h2⟩
 | 13, _ =>
  refine (Qap hn (Qas hn (I _) (L 0)) (I _) p q).trans ⟨fun ⟨m, h1, h2⟩ => ?_, fun ⟨h1, h2, h3⟩ => ⟨q, (Qap hn (I _) (L 0) p q).2 ⟨p, (Qf1 hn (Rg.l h2)).2 ⟨rfl, h1⟩, h2⟩, (Qf1 hn (Rg.r h2)).2 ⟨rfl, h3⟩⟩⟩
  obtain ⟨rfl, _, h3⟩ := Qfs hn h2
  obtain ⟨x, h4, h5⟩ := (Qap hn (I _) (L 0) p m).1 h1
  obtain ⟨rfl, _, h6⟩ := Qfs hn h4
  exact ⟨h6, h5, h3⟩
 | 14, _ =>
  refine (Qap hn (I _) (L 0) p q).trans ⟨fun ⟨m, h1, h2⟩ => ?_, fun ⟨h1, h2⟩ => ⟨p, (Qf1 hn (Rg.l h2)).2 ⟨rfl, h1⟩, h2⟩⟩
  obtain ⟨rfl, _, h3⟩ := Qfs hn h1
  exact ⟨h3, h2⟩
 | 15, _ =>
  refine (Qap hn (L 0) (I _) p q).trans ⟨fun ⟨m, h1, h2⟩ => ?_, fun ⟨h1, h2⟩ => ⟨q, h1, (Qf1 hn (Rg.r h1)).2 ⟨rfl, h2⟩⟩⟩
  obtain ⟨rfl, _, h3⟩ := Qfs hn h2
  exact ⟨h1, h3⟩
 | 16, _ =>
  refine (Qap hn (Qas hn (L 0) (I _)) (Qd0 (L 2) (L 6)) p q).trans ⟨fun ⟨m, h1, h2⟩ => ?_, fun ⟨m, ⟨h1, h2⟩, h3⟩ => ⟨m, (Qap hn (L 0) (I _) p m).2 ⟨m, h1, (Qf1 hn (Rg.r h1)).2 ⟨rfl, h2⟩⟩, (Qdi (L 2) (L 6) m q).2 h3⟩⟩
  obtain ⟨x, h4, h5⟩ := (Qap hn (L 0) (I _) p m).1 h1
  obtain ⟨rfl, _, h6⟩ := Qfs hn h5
  exact ⟨x, ⟨h4, h6⟩, (Qdi (L 2) (L 6) x q).1 h2⟩
 | n + 17, h => omega
theorem QAv (hn : g.evs.length ≤ 256) : hs (Qfa g (LG g)) p q ↔ ∃ i, 0 ≤ i ∧ i < 3 ∧ ClP g i p q := by
 unfold Qfa
 rw [Qgy (n := g.evs.length) (by intro L h; simp only [List.mem_cons, List.not_mem_nil, or_false] at h; rcases h with rfl | rfl | rfl <;> exact Qhi hn _ dW) (List.cons_ne_nil _ _)]
 simp only [List.mem_cons, List.not_mem_nil, or_false, exists_eq_or_imp, exists_eq_left]
 rw [Qb3 hn (show (0 : Nat) < 17 by decide), Qb3 hn (show (1 : Nat) < 17 by decide), Qb3 hn (show (2 : Nat) < 17 by decide)]
 constructor
 ·rintro (h | h | h)
  ·exact ⟨0, by decide, by decide, h⟩
  ·exact ⟨1, by decide, by decide, h⟩
  ·exact ⟨2, by decide, by decide, h⟩
 ·rintro ⟨i, h1, h2, h⟩
  have e : i = 0 ∨ i = 1 ∨ i = 2 := by omega
  rcases e with rfl | rfl | rfl
  ·exact .inl h
  ·exact .inr (.inl h)
  ·exact .inr (.inr (h))
theorem QCh (hn : g.evs.length ≤ 256) : WF g.evs.length (Qfa g (LG g)) := Qig (by intro L h; simp only [List.mem_cons, List.not_mem_nil, or_false] at h; rcases h with rfl | rfl | rfl <;> exact Qhi hn _ dW) (List.cons_ne_nil _ _)
theorem QAw (hn : g.evs.length ≤ 256) : hs (Qfj g (LG g)) p q ↔ ∃ i, 3 ≤ i ∧ i < 9 ∧ ClP g i p q := by
 unfold Qfj
 rw [Qgy (n := g.evs.length) (by intro L h; simp only [List.mem_cons, List.not_mem_nil, or_false] at h; rcases h with rfl | rfl | rfl | rfl | rfl | rfl <;> exact Qhi hn _ dW) (List.cons_ne_nil _ _)]
 simp only [List.mem_cons, List.not_mem_nil, or_false, exists_eq_or_imp, exists_eq_left]
 rw [Qb3 hn (show (3 : Nat) < 17 by decide), Qb3 hn (show (4 : Nat) < 17 by decide), Qb3 hn (show (5 : Nat) < 17 by decide), Qb3 hn (show (6 : Nat) < 17 by decide), Qb3 hn (show (7 : Nat) < 17 by decide), Qb3 hn (show (8 : Nat) < 17 by decide)]
 constructor
 ·rintro (h | h | h | h | h | h)
  ·exact ⟨3, by decide, by decide, h⟩
  ·exact ⟨4, by decide, by decide, h⟩
  ·exact ⟨5, by decide, by decide, h⟩
  ·exact ⟨6, by decide, by decide, h⟩
  ·exact ⟨7, by decide, by decide, h⟩
  ·exact ⟨8, by decide, by decide, h⟩
 ·rintro ⟨i, h1, h2, h⟩
  have e : i = 3 ∨ i = 4 ∨ i = 5 ∨ i = 6 ∨ i = 7 ∨ i = 8 := by omega
  rcases e with rfl | rfl | rfl | rfl | rfl | rfl
  ·exact .inl h
  ·exact .inr (.inl h)
  ·exact .inr (.inr (.inl h))
  ·exact .inr (.inr (.inr (.inl h)))
  ·exact .inr (.inr (.inr (.inr (.inl h))))
  ·exact .inr (.inr (.inr (.inr (.inr (h)))))
theorem QCi (hn : g.evs.length ≤ 256) : WF g.evs.length (Qfj g (LG g)) := Qig (by intro L h; simp only [List.mem_cons, List.not_mem_nil, or_false] at h; rcases h with rfl | rfl | rfl | rfl | rfl | rfl <;> exact Qhi hn _ dW) (List.cons_ne_nil _ _)
theorem QAx (hn : g.evs.length ≤ 256) : hs (Qfk g (LG g)) p q ↔ ∃ i, 9 ≤ i ∧ i < 11 ∧ ClP g i p q := by
 unfold Qfk
 rw [Qgy (n := g.evs.length) (by intro L h; simp only [List.mem_cons, List.not_mem_nil, or_false] at h; rcases h with rfl | rfl <;> exact Qhi hn _ dW) (List.cons_ne_nil _ _)]
 simp only [List.mem_cons, List.not_mem_nil, or_false, exists_eq_or_imp, exists_eq_left]
 rw [Qb3 hn (show (9 : Nat) < 17 by decide), Qb3 hn (show (10 : Nat) < 17 by decide)]
 constructor
 ·rintro (h | h)
  ·exact ⟨9, by decide, by decide, h⟩
  ·exact ⟨10, by decide, by decide, h⟩
 ·rintro ⟨i, h1, h2, h⟩
  have e : i = 9 ∨ i = 10 := by omega
  rcases e with rfl | rfl
  ·exact .inl h
  ·exact .inr (h)
theorem QCj (hn : g.evs.length ≤ 256) : WF g.evs.length (Qfk g (LG g)) := Qig (by intro L h; simp only [List.mem_cons, List.not_mem_nil, or_false] at h; rcases h with rfl | rfl <;> exact Qhi hn _ dW) (List.cons_ne_nil _ _)
theorem QAy (hn : g.evs.length ≤ 256) : hs (Qfl g (LG g)) p q ↔ ∃ i, 11 ≤ i ∧ i < 17 ∧ ClP g i p q := by
 unfold Qfl
 rw [Qgy (n := g.evs.length) (by intro L h; simp only [List.mem_cons, List.not_mem_nil, or_false] at h; rcases h with rfl | rfl | rfl | rfl | rfl | rfl <;> exact Qhi hn _ dW) (List.cons_ne_nil _ _)]
 simp only [List.mem_cons, List.not_mem_nil, or_false, exists_eq_or_imp, exists_eq_left]
 rw [Qb3 hn (show (11 : Nat) < 17 by decide), Qb3 hn (show (12 : Nat) < 17 by decide), Qb3 hn (show (13 : Nat) < 17 by decide), Qb3 hn (show (14 : Nat) < 17 by decide), Qb3 hn (show (15 : Nat) < 17 by decide), Qb3 hn (show (16 : Nat) < 17 by decide)]
 constructor
 ·rintro (h | h | h | h | h | h)
  ·exact ⟨11, by decide, by decide, h⟩
  ·exact ⟨12, by decide, by decide, h⟩
  ·exact ⟨13, by decide, by decide, h⟩
  ·exact ⟨14, by decide, by decide, h⟩
  ·exact ⟨15, by decide, by decide, h⟩
  ·exact ⟨16, by decide, by decide, h⟩
 ·rintro ⟨i, h1, h2, h⟩
  have e : i = 11 ∨ i = 12 ∨ i = 13 ∨ i = 14 ∨ i = 15 ∨ i = 16 := by omega
  rcases e with rfl | rfl | rfl | rfl | rfl | rfl
  ·exact .inl h
  ·exact .inr (.inl h)
  ·exact .inr (.inr (.inl h))
  ·exact .inr (.inr (.inr (.inl h)))
  ·exact .inr (.inr (.inr (.inr (.inl h))))
  ·exact .inr (.inr (.inr (.inr (.inr (h)))))
theorem QCk (hn : g.evs.length ≤ 256) : WF g.evs.length (Qfl g (LG g)) := Qig (by intro L h; simp only [List.mem_cons, List.not_mem_nil, or_false] at h; rcases h with rfl | rfl | rfl | rfl | rfl | rfl <;> exact Qhi hn _ dW) (List.cons_ne_nil _ _)
theorem Qs1 (n : Nat) : ∀ L ∈ ([] : List (List Nat)), WF n L := fun L h => by cases h
theorem Qeb {n : Nat} {A : List Nat} {Ls : List (List Nat)} (h : WF n A) (k : ∀ L ∈ Ls, WF n L) : ∀ L ∈ A :: Ls, WF n L := fun L hL => by
 rcases List.mem_cons.1 hL with e | hL
 ·rw [e]; exact h
 ·exact k L hL
theorem Qwu (hn : g.evs.length ≤ 256) : ∀ L ∈ [Qfa g (LG g), Qfj g (LG g), Qfk g (LG g), Qfl g (LG g)], WF g.evs.length L := Qeb (QCh hn) (Qeb (QCi hn) (Qeb (QCj hn) (Qeb (QCk hn) (Qs1 _))))
theorem Qs2 (g : Gr) : ∀ L ∈ [Qc4 (LG g 0) (LG g 5), LG g 1, LG g 2, LG g 3], WF g.evs.length L := Qeb (Qfc (Qbu g 0) (Qbu g 5)) (Qeb (Qbu g 1) (Qeb (Qbu g 2) (Qeb (Qbu g 3) (Qs1 _))))
theorem Qwv (hn : g.evs.length ≤ 256) : hs (obL g (LG g)) p q ↔ ∃ i, i < 17 ∧ ClP g i p q := by
 unfold obL
 rw [Qgy (n := g.evs.length) (Qwu hn) (List.cons_ne_nil _ _)]
 simp only [List.mem_cons, List.not_mem_nil, or_false, exists_eq_or_imp, exists_eq_left]
 rw [QAv hn, QAw hn, QAx hn, QAy hn]
 constructor
 ·rintro (⟨i, h1, h2, h⟩ | ⟨i, h1, h2, h⟩ | ⟨i, h1, h2, h⟩ | ⟨i, h1, h2, h⟩) <;> exact ⟨i, oW, h⟩
 ·rintro ⟨i, hi, h⟩
  by_cases h1 : i < 3
  ·exact .inl ⟨i, oW, h1, h⟩
  by_cases h2 : i < 9
  ·exact .inr (.inl ⟨i, oW, h2, h⟩)
  by_cases h3 : i < 11
  ·exact .inr (.inr (.inl ⟨i, oW, h3, h⟩))
  exact .inr (.inr (.inr ⟨i, oW, hi, h⟩))
theorem Qy9 (hn : g.evs.length ≤ 256) : WF g.evs.length (obL g (LG g)) := Qig (Qwu hn) (List.cons_ne_nil _ _)
theorem QAz : hs (Qey (LG g)) p q ↔ (Rg g 0 p q ∧ Rg g 5 p q) ∨ Rg g 1 p q ∨ Rg g 2 p q ∨ Rg g 3 p q := by
 unfold Qey
 rw [Qgy (n := g.evs.length) (Qs2 g) (List.cons_ne_nil _ _)]
 simp only [List.mem_cons, List.not_mem_nil, or_false, exists_eq_or_imp, exists_eq_left, Qdh (Qbu g 0) (Qbu g 5)]
theorem Qww : WF g.evs.length (Qey (LG g)) := Qig (Qs2 g) (List.cons_ne_nil _ _)
end
section
variable {g : Gr} {p q : Nat}
theorem Qft {k : Nat} {F : Nat → Nat → Bool} (e : LG g k = Qdk g.evs.length F) : Rg g k p q ↔ p < g.evs.length ∧ q < g.evs.length ∧ F p q = true := by
 unfold Rg
 rw [e]
 constructor
 ·exact QCf
 ·rintro ⟨hp, hq, h⟩
  unfold hs
  rw [Qkg _ _ hp, Qf, decide_eq_true hq, h]
  rfl
theorem rg0 : Rg g 0 p q ↔ p < g.evs.length ∧ q < g.evs.length ∧ poB g.evs p q = true := Qft rfl
theorem rg1 : Rg g 1 p q ↔ p < g.evs.length ∧ q < g.evs.length ∧ Qci g.rf p q = true := Qft rfl
theorem rg2 : Rg g 2 p q ↔ p < g.evs.length ∧ q < g.evs.length ∧ coB g p q = true := Qft rfl
theorem rg3 : Rg g 3 p q ↔ p < g.evs.length ∧ q < g.evs.length ∧ frB g p q = true := Qft rfl
theorem rg4 : Rg g 4 p q ↔ p < g.evs.length ∧ q < g.evs.length ∧ Qci g.rmw p q = true := Qft rfl
theorem rg5 : Rg g 5 p q ↔ p < g.evs.length ∧ q < g.evs.length ∧ Ql5 g.evs p q = true := Qft rfl
theorem rg6 : Rg g 6 p q ↔ p < g.evs.length ∧ q < g.evs.length ∧ Qhz g.evs p q = true := Qft rfl
theorem rg7 : Rg g 7 p q ↔ p < g.evs.length ∧ q < g.evs.length ∧ Qci g.addr p q = true := Qft rfl
theorem rg8 : Rg g 8 p q ↔ p < g.evs.length ∧ q < g.evs.length ∧ Qci g.dat p q = true := Qft rfl
theorem rg9 : Rg g 9 p q ↔ p < g.evs.length ∧ q < g.evs.length ∧ Qci g.ctrl p q = true := Qft rfl
theorem Qyz (h : Wf g true) {i : Nat} {x : Int × Int} (hx : g.rf[i]? = some x) : ∃ a b : Nat, x = (((a : Nat) : Int), ((b : Nat) : Int)) ∧ a < g.evs.length ∧ b < g.evs.length ∧ (g.ev a).k = 2 ∧ (g.ev b).k = 1 ∧ (g.ev a).l = (g.ev b).l ∧ Qci g.rf a b = true := by
 obtain ⟨a, b, rfl, ha, hb⟩ := QCv h hx
 have h4 : Qbt g = -1 := h 3 oW
 have hi := (List.getElem?_eq_some_iff.1 hx).1
 have hr : Qak (fun i => !(Qb0 g i (g.rf.getD i (0, 0)) && Qcp g (g.rf.getD i (0, 0)))) 0 g.rf.length = -1 := by
  unfold Qbt at h4
  dsimp only at h4
  split at h4
  ·assumption
  ·exact h4
 have := Qh8 hr i (Nat.zero_le _) oW
 rw [List.getD_eq_getElem?_getD, hx, Option.getD_some] at this
 simp [Qb0, Qcp, isB] at this
 have hm := List.mem_of_getElem? hb
 unfold Gr.reads Qa9 at hm
 rw [List.mem_filter, List.mem_range] at hm
 refine ⟨a, b, rfl, ha, hm.1, ?_, ?_, ?_, decide_eq_true (List.mem_of_getElem? hx)⟩
 ·exact this.1.2.2
 ·simpa [Gr.ev] using hm.2
 ·exact this.2.1
end
def Mw (a b : Int) : Prop := a = b ∨ (a = 16 ∧ b = 12) ∨ (a = 11 ∧ (b = 12 ∨ b = 13 ∨ b = 16)) ∨ (a = 14 ∧ b = 15)
structure Wa (g h : Gr) : Prop where
 cells : h.cells = g.cells
 rf : h.rf = g.rf
 co : h.co = g.co
 rmw : h.rmw = g.rmw
 addr : h.addr.Sublist g.addr
 dat : h.dat.Sublist g.dat
 ctrl : h.ctrl.Sublist g.ctrl
 len : h.evs.length = g.evs.length
 ev : ∀ i, i < g.evs.length → (h.ev i).t = (g.ev i).t ∧ (h.ev i).k = (g.ev i).k ∧ (h.ev i).l = (g.ev i).l ∧ (h.ev i).v = (g.ev i).v ∧ Mw (h.ev i).m (g.ev i).m
section
variable {g h : Gr} {p q : Nat}
theorem Qy0 {a b : Int × Int} : Qf8 a b < 0 ↔ a.1 < b.1 ∨ (a.1 = b.1 ∧ a.2 < b.2) := by
 unfold Qf8 orI Qhw
 by_cases h1 : a.1 < b.1
 ·simp [h1]
 ·by_cases h2 : b.1 < a.1
  ·simp [h1, h2]; omega
  ·have e : a.1 = b.1 := by omega
   by_cases h3 : a.2 < b.2
   ·simp [h3, e]
   ·by_cases h4 : b.2 < a.2
    ·simp [h1, h2, h3, h4]
    ·simp [h1, h2, h3, h4]
def Rise (a b : Int × Int) : Prop := Qf8 a b < 0
theorem Rise.trans {a b c : Int × Int} (h : Rise a b) (k : Rise b c) : Rise a c := by
 unfold Rise at *
 rw [Qy0] at *
 omega
theorem Qs3 {l : List (Int × Int)} : (∀ i, i < l.length → Qd9 true l i = true) ↔ l.Pairwise Rise := by
 rw [List.pairwise_iff_getElem]
 constructor
 ·intro h
  have key : ∀ d i (h1 : i < l.length) (h2 : i + 1 + d < l.length), Rise l[i] l[i + 1 + d] := by
   intro d
   have one : ∀ i (h1 : i < l.length) (h2 : i + 1 < l.length), Rise l[i] l[i + 1] := fun i h1 h2 => by
    have := h (i + 1) h2
    unfold Qd9 at this
    simp only [Nat.add_eq_zero_iff, Nat.one_ne_zero, and_false, decide_false, Bool.false_or, Bool.true_and, decide_eq_true_eq, Nat.add_sub_cancel] at this
    rw [List.getD_eq_getElem?_getD, List.getD_eq_getElem?_getD, List.getElem?_eq_getElem h1, List.getElem?_eq_getElem h2] at this
    exact this
   induction d with
   | zero => exact fun i h1 h2 => one i h1 h2
   | succ d ih => exact fun i h1 h2 => (ih i h1 oW).trans (one (i + 1 + d) oW h2)
  intro i j hi hj hij
  obtain ⟨d, rfl⟩ : ∃ d, j = i + 1 + d := ⟨j - (i + 1), oW⟩
  exact key d i hi hj
 ·intro h i hi
  unfold Qd9
  by_cases e : i = 0
  ·simp [e]
  ·have := h (i - 1) i oW hi oW
   have h1 : i - 1 < l.length := by omega
   rw [List.getD_eq_getElem?_getD, List.getD_eq_getElem?_getD, List.getElem?_eq_getElem h1, List.getElem?_eq_getElem hi]
   unfold Rise at this
   simp [this]
theorem Qj {evs : List Ev} {l : List (Int × Int)} {ks : List Int} : Qcf evs true l ks = -1 ↔ l.Pairwise Rise ∧ ∀ p ∈ l, Qe evs p ks = true := by
 unfold Qcf
 constructor
 ·intro h
  have h2 := Qh8 h
  have h3 : ∀ i, i < l.length → Qd9 true l i = true ∧ Qe evs (l.getD i (0, 0)) ks = true := fun i hi => by
   have := h2 i (Nat.zero_le _) oW
   simpa using this
  refine ⟨Qs3.1 (fun i hi => (h3 i hi).1), fun p hp => ?_⟩
  obtain ⟨i, hi, rfl⟩ := List.mem_iff_getElem.1 hp
  have := (h3 i hi).2
  rw [List.getD_eq_getElem?_getD, List.getElem?_eq_getElem hi] at this
  exact this
 ·rintro ⟨h1, h2⟩
  refine Qai (fun i _ hi => ?_)
  have hi : i < l.length := by omega
  rw [Qs3.2 h1 i hi, List.getD_eq_getElem?_getD, List.getElem?_eq_getElem hi]
  simp [h2 _ (List.getElem_mem hi)]
theorem QCl {g : Gr} {q : Bool} (h : ∀ j, j < 9 → rl g q j = -1) : (chk g q).1 = 0 := by
 unfold chk
 have := Qg2 (g := g) (q := q) (i := 0) (f := 0) (k := 9) (fun j _ h2 => h j oW)
 rw [Nat.zero_add] at this
 rw [this]
 rfl
theorem m1 {a b : Int} (h : Mw a b) (ha : a ∈ ([12, 16] : List Int)) : b ∈ ([12, 16] : List Int) := by
 simp only [List.mem_cons, List.not_mem_nil, or_false] at ha ⊢
 unfold Mw at h
 omega
theorem m2 {a b : Int} (h : Mw a b) (ha : a ∈ ([12] : List Int)) : b ∈ ([12] : List Int) := by
 simp only [List.mem_cons, List.not_mem_nil, or_false] at ha ⊢
 unfold Mw at h
 omega
theorem m3 {a b : Int} (h : Mw a b) (ha : a ∈ ([13] : List Int)) : b ∈ ([13] : List Int) := by
 simp only [List.mem_cons, List.not_mem_nil, or_false] at ha ⊢
 unfold Mw at h
 omega
theorem m4 {a b : Int} (h : Mw a b) (ha : a ∈ ([15] : List Int)) : b ∈ ([15] : List Int) := by
 simp only [List.mem_cons, List.not_mem_nil, or_false] at ha ⊢
 unfold Mw at h
 omega
theorem m5 {a b : Int} (h : Mw a b) (ha : a ∈ ([14] : List Int)) : b ∈ ([14] : List Int) ∨ b ∈ ([15] : List Int) := by
 simp only [List.mem_cons, List.not_mem_nil, or_false] at ha ⊢
 unfold Mw at h
 omega
theorem Qq6 {n : Nat} {L o : List Nat} (hw : WF n L) (h : Qdg L o) (ho : o ≠ []) : ∃ p, TransGen (hs L) p p := by
 rcases h with ⟨_, e⟩ | ⟨s, tl, ly, e, _, _⟩
 ·exact absurd e ho
 ·have hs1 : s ∈ Qad (Qc (Qdw L)) := by rw [e]; simp
  have h2 := (Qbk.1 hs1).2
  unfold Qc at h2
  rw [Qn2] at h2
  exact ⟨s, (Qsh hw s s).1 h2.2⟩
end
end Go.Proofs.YtdkogbfamdnheaaGreatDoor
