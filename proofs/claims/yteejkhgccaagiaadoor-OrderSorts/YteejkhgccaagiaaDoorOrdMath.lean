/- How many a point waits for, and the order that Sort lays. -/
import Derived.Test.YteejkhgccaagiaaDoorOrdNewM
namespace Go.Proofs.YteejkhgccaagiaaDoor
open Go.RowKit Sx

/-- How many a point waits for, pts standing; one more, once it stands itself. -/
def wAt (ps : List (Nat × Nat)) (pts : List Nat) (q : Nat) : Int := ((ps.filter (fun x => x.2 == q && !pts.contains x.1)).length : Int) + (if pts.contains q then 1 else 0)
def wAll (n : Nat) (ps : List (Nat × Nat)) (pts : List Nat) : List Int := (List.range n).map (wAt ps pts)
theorem wAll_length (n : Nat) (ps : List (Nat × Nat)) (pts : List Nat) : (wAll n ps pts).length = n := by simp [wAll]
theorem wAll_at {n : Nat} (ps : List (Nat × Nat)) (pts : List Nat) {q : Nat} (h : q < n) : (wAll n ps pts)[q]? = some (wAt ps pts q) := by simp [wAll, h]
theorem wAll_nil (n : Nat) (ps : List (Nat × Nat)) : wAll n ps [] = wtOf n ps := by
  unfold wAll wtOf
  apply List.map_congr_left
  intro q _
  simp [wAt]
theorem set_getD (l : List Int) (i q : Nat) (x : Int) (hq : q < l.length) : (l.set i x).getD q 0 = if i = q then x else l.getD q 0 := by
  rw [List.getD_eq_getElem?_getD, List.getD_eq_getElem?_getD, List.getElem?_set]
  split
  · rename_i e
    subst e
    simp [hq]
  · rfl
theorem subAll_at : ∀ (bl : List Nat) (ws : List Int) (q : Nat), q < ws.length → (subAll 1 ws bl).getD q 0 = ws.getD q 0 - (bl.count q : Int)
  | [], ws, q, _ => by simp [subAll]
  | p :: bl, ws, q, hq => by
    have h := subAll_at bl (ws.set p (ws.getD p 0 - 1)) q (by simpa using hq)
    rw [show subAll 1 ws (p :: bl) = subAll 1 (ws.set p (ws.getD p 0 - 1)) bl from rfl, h, set_getD _ _ _ _ hq, List.count_cons]
    by_cases e : p = q
    · subst e
      simp
      omega
    · have : ¬ (p == q) = true := by simpa using e
      rw [if_neg e, if_neg this]
      simp
theorem split_count (pts : List Nat) (p q : Nat) (hp : p ∉ pts) : ∀ (ps : List (Nat × Nat)), (ps.filter (fun x => x.2 == q && !pts.contains x.1)).length = (ps.filter (fun x => x.2 == q && !(pts ++ [p]).contains x.1)).length + ((ps.filter (fun x => x.1 == p)).map (·.2)).count q
  | [] => by simp
  | (a, b) :: ps => by
    have ih := split_count pts p q hp ps
    have hc : (pts ++ [p]).contains a = (pts.contains a || (a == p)) := by
      rw [Bool.eq_iff_iff]
      simp
    rw [List.filter_cons, List.filter_cons, List.filter_cons]
    simp only [hc]
    by_cases hap : a = p
    · subst hap
      have h1 : pts.contains a = false := by
        rw [Bool.eq_false_iff]; simpa using hp
      by_cases hbq : b = q
      · subst hbq
        simp only [h1, beq_self_eq_true, Bool.true_and, Bool.not_false, Bool.or_true, Bool.not_true, Bool.false_eq_true, if_false, if_true, List.map_cons, List.count_cons, List.length_cons]
        omega
      · have h2 : (b == q) = false := by simpa using hbq
        simp only [h2, h1, beq_self_eq_true, Bool.false_and, Bool.or_true, Bool.not_true, Bool.and_false, Bool.false_eq_true, if_false, if_true, List.map_cons, List.count_cons]
        simpa using ih
    · have h3 : (a == p) = false := by simpa using hap
      simp only [h3, Bool.or_false, Bool.false_eq_true, if_false]
      by_cases hc2 : (b == q && !pts.contains a) = true
      · rw [if_pos hc2, if_pos hc2, List.length_cons, List.length_cons, ih]
        omega
      · rw [if_neg hc2, if_neg hc2]
        exact ih
theorem ext_getD {a b : List Int} (hl : a.length = b.length) (h : ∀ q, q < a.length → a.getD q 0 = b.getD q 0) : a = b := by
  apply List.ext_getElem?
  intro q
  by_cases hq : q < a.length
  · rw [getD_of hq, getD_of (by omega), h q hq]
  · rw [List.getElem?_eq_none (by omega), List.getElem?_eq_none (by omega)]
theorem wAll_getD {n : Nat} (ps : List (Nat × Nat)) (pts : List Nat) {q : Nat} (h : q < n) : (wAll n ps pts).getD q 0 = wAt ps pts q := by
  rw [List.getD_eq_getElem?_getD, wAll_at ps pts h]; rfl
theorem count_wAll {n : Nat} (ps : List (Nat × Nat)) (pts : List Nat) {p : Nat} (hp : p < n) (hnp : p ∉ pts) : countF 1 (wAll n ps pts) p ((bkOf n ps).getD p []) = wAll n ps (pts ++ [p]) := by
  have e : (bkOf n ps).getD p [] = (ps.filter (fun x => x.1 == p)).map (·.2) := by rw [List.getD_eq_getElem?_getD, bkOf_at ps hp]; rfl
  rw [e]
  unfold countF
  apply ext_getD
  · rw [subAll_length, List.length_set, wAll_length, wAll_length]
  · intro q hq
    rw [subAll_length, List.length_set, wAll_length] at hq
    rw [subAll_at _ _ _ (by rw [List.length_set, wAll_length]; exact hq), set_getD _ _ _ _ (by rw [wAll_length]; exact hq), wAll_getD _ _ hq, wAll_getD _ _ hq, wAll_getD _ _ hp]
    have hs := split_count pts p q hnp ps
    have hc : (pts ++ [p]).contains q = (pts.contains q || (q == p)) := by
      rw [Bool.eq_iff_iff]; simp
    unfold wAt
    rw [hs, hc]
    by_cases e2 : p = q
    · subst e2
      have h1 : pts.contains p = false := by rw [Bool.eq_false_iff]; simpa using hnp
      rw [if_pos rfl, h1, hs]
      simp
      omega
    · have h3 : (q == p) = false := by simpa using fun e => e2 e.symm
      rw [if_neg e2, h3, Bool.or_false]
      omega
theorem wAt_nonneg (ps : List (Nat × Nat)) (pts : List Nat) (q : Nat) : 0 ≤ wAt ps pts q := by
  unfold wAt
  split <;> omega
theorem wAt_pos {ps : List (Nat × Nat)} {pts : List Nat} {q : Nat} (h : q ∈ pts) : wAt ps pts q ≠ 0 := by
  unfold wAt
  rw [if_pos (by simpa using h)]
  omega
/-- Points are laid, the least that may first, so long as there is one. -/
def srt (n : Nat) (ps : List (Nat × Nat)) : Nat → List Nat → List Nat
  | 0, pts => pts
  | f + 1, pts => if 0 ≤ fz (wAll n ps pts) then srt n ps f (pts ++ [(fz (wAll n ps pts)).toNat]) else pts
theorem fz_range {l : List Int} (h : 0 ≤ fz l) : ∃ p : Nat, fz l = (p : Int) ∧ p < l.length ∧ l[p]? = some 0 := by
  unfold fz at h ⊢
  split at h
  · rename_i i hi
    have := List.findIdx?_eq_some_iff_getElem.1 hi
    obtain ⟨h1, h2, _⟩ := this
    refine ⟨i, rfl, h1, ?_⟩
    rw [List.getElem?_eq_getElem h1]
    simpa using h2
  · omega
end Go.Proofs.YteejkhgccaagiaaDoor
