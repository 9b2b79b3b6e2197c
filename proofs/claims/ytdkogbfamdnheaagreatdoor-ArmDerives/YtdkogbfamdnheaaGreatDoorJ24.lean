/- Of RefSame, what this seat can build. -/
import Derived.Test.YtdkogbfamdnheaaGreatDoorJ23
import Derived.Test.YtdkogbfamdnheaaGreatDoorJ15
import Derived.Maps.AppendAt
namespace Go.Proofs.YtdkogbfamdnheaaGreatDoor
open Go.RowKit Go.Shelf Sx Relation
set_option maxRecDepth 100000
set_option maxHeartbeats 16000000
set_option linter.unusedSimpArgs false
set_option linter.unusedVariables false
section
variable {N : Nat} {F : Nat → Nat → Bool} {L : List Nat}
end
section
variable {n m N : Nat} {F G : Nat → Nat → Bool} {A B : List Nat}
theorem Twin.ext (h : Twin n F A) (p q : Nat) : Qad n F p q = true ↔ hs A p q := by
 unfold Qad
 rw [Bool.and_eq_true, Bool.and_eq_true, decide_eq_true_eq, decide_eq_true_eq]
 constructor
 ·rintro ⟨h1, h2, h3⟩
  exact (h.same p q h1 h2).1 h3
 ·intro h1
  have h2 := Qbo h1
  rw [h.wf.len] at h2
  exact ⟨h2, h.wf.low _ _ h1, (h.same p q h2 (h.wf.low _ _ h1)).2 h1⟩
theorem Qwc (ha : Twin n F A) (hb : Twin m G B) (HN : N = max n m) : Twin N (fun p q => Qad n F p q && !Qad m G p q) (Qc A B) := by
 have hl : max A.length B.length = N := by rw [ha.wf.len, hb.wf.len, HN]
 have key : ∀ p q, hs (Qc A B) p q ↔ hs A p q ∧ ¬ hs B p q := fun p q => by
  unfold Qc
  rw [hl, Qhf (Nat.le_refl _), Qc4, Bool.and_eq_true, Bool.not_eq_true']
  unfold hs
  rw [Bool.not_eq_true]
  exact ⟨fun h => h.2, fun h => ⟨by have := ha.low (show hs A p q from h.1); omega, h⟩⟩
 refine Twin.mk' (by unfold Qc; rw [Qay, hl]) ?_ ?_
 ·intro p q h
  have := ha.low ((key p q).1 h).1; omega
 ·intro p q _ _
  rw [Bool.and_eq_true, ha.ext, Bool.not_eq_true', ← Bool.not_eq_true, hb.ext, key]
theorem Qrj (X Y : Nat → Nat → Bool) (k p q : Nat) : Qdj X Y k p q = true ↔ ∃ r, r < k ∧ X p r = true ∧ Y r q = true := by
 induction k with
 | zero => simp [Qdj]
 | succ k ih =>
  rw [Qkm, Bool.or_eq_true, ih, Bool.and_eq_true]
  constructor
  ·rintro (⟨r, h1, h2⟩ | h)
   ·exact ⟨r, by omega, h2⟩
   ·exact ⟨k, by omega, h⟩
  ·rintro ⟨r, h1, h2⟩
   by_cases e : r = k
   ·subst e; exact Or.inr h2
   ·exact Or.inl ⟨r, by omega, h2⟩
theorem Qyk (hn : n ≤ 256) (ha : Twin n F A) (hb : Twin m G B) (HN : N = max n m) : Twin N (Qdj (Qad n F) (Qad m G) N) (Qav A B) := by
 have hl : max A.length B.length = N := by rw [ha.wf.len, hb.wf.len, HN]
 have key : ∀ p q, hs (Qav A B) p q ↔ ∃ r, hs A p r ∧ hs B r q := fun p q => by
  unfold Qav
  rw [hl]
  have e : Qba N (fun p => Qao B (Qag (gr A p))) A.length = Qba N (fun p => Qao B (Qag (gr A p))) N := by
   unfold Qba
   apply List.map_congr_left
   intro p hp
   have hp : p < N := by simpa using hp
   rw [if_pos hp]
   by_cases h : p < A.length
   ·rw [if_pos h]
   ·rw [if_neg h]
    show 0 = Qao B (Qag (gr A p))
    rw [Qkn h]
    have : Qag 0 = [] := by
     cases e : Qag 0 with
     | nil => rfl
     | cons x l =>
      have : x ∈ Qag 0 := by rw [e]; simp
      have := (Qbt.1 this).2
      simp at this
    rw [this]
    rfl
  rw [e, Qhf (Nat.le_refl _)]
  unfold Qao
  rw [Qh0]
  constructor
  ·rintro ⟨_, h | ⟨r, hr, h⟩⟩
   ·simp at h
   ·exact ⟨r, (Qbt.1 hr).2, h⟩
  ·rintro ⟨r, h1, h2⟩
   have := ha.low h1
   exact ⟨by omega, Or.inr ⟨r, Qbt.2 ⟨by omega, h1⟩, h2⟩⟩
 refine Twin.mk' (by unfold Qav; rw [Qay, hl]) ?_ ?_
 ·intro p q h
  obtain ⟨r, _, h⟩ := (key p q).1 h
  have := hb.low h; omega
 ·intro p q _ _
  rw [Qrj, key]
  constructor
  ·rintro ⟨r, _, h1, h2⟩
   exact ⟨r, (ha.ext p r).1 h1, (hb.ext r q).1 h2⟩
  ·rintro ⟨r, h1, h2⟩
   have := hb.low h2
   exact ⟨r, by omega, (ha.ext p r).2 h1, (hb.ext r q).2 h2⟩
end
end Go.Proofs.YtdkogbfamdnheaaGreatDoor
namespace Go.Proofs.YtdkogbfamdnheaaGreatDoor
open Go.RowKit Go.Shelf Sx
set_option maxRecDepth 100000
set_option maxHeartbeats 16000000
set_option linter.unusedSimpArgs false
set_option linter.unusedVariables false
open Relation
section
variable {N : Nat} {F : Nat → Nat → Bool} {L : List Nat}
end
section
variable {N : Nat} {F : Nat → Nat → Bool} {L : List Nat}
end
section
variable {n m N : Nat} {F G : Nat → Nat → Bool} {A B : List Nat}
theorem QAn (hn : n ≤ 256) (ha : Twin n F A) {p : Nat} (hp : p < n) : Qag (gr A p) = (List.range n).filter (F p) := by
 unfold Qag Qcr
 obtain ⟨d, hd⟩ : ∃ d, 256 = n + d := ⟨256 - n, by omega⟩
 have hz : (List.map (fun x => n + x) (List.range d)).filter (gr A p).testBit = [] := by
  rw [List.filter_eq_nil_iff]
  intro q hq h
  obtain ⟨r, _, rfl⟩ := List.mem_map.1 hq
  have := (ha.low (show hs A p (n + r) from h)).2
  omega
 rw [hd, List.range_add, List.filter_append, hz, List.append_nil]
 apply List.filter_congr
 intro q hq
 have hq : q < n := by simpa using hq
 rw [Bool.eq_iff_iff]
 exact (ha.same p q hp hq).symm
theorem Qwd (hn : n ≤ 256) (ha : Twin n F A) : Qe2 A = Qda n F n 0 := by
 unfold Qe2 Qch Qda
 rw [ha.wf.len, show Qgo F n 0 = [] from rfl, List.append_nil]
 rw [List.flatMap_def, List.flatMap_def]
 congr 1
 apply List.map_congr_left
 intro p hp
 have hp : p < n := by simpa using hp
 unfold Qgo
 rw [QAn hn ha hp]
end
end Go.Proofs.YtdkogbfamdnheaaGreatDoor
