/- Copies of lists of pairs and of events. (Printed by gr8j.py.) -/
import Derived.Test.YtmmadkghojoniaaGreatDoorJ21
import Derived.Test.YtmmadkghojoniaaGreatDoorJ13
import Derived.Deep.AppendSrc
namespace Go.Proofs.YtmmadkghojoniaaGreatDoor
open Go.RowKit Go.Shelf Sx
def encPI (l : List (Int × Int)) : List Value := l.flatMap (fun x => [.int .i64 x.1, .int .i64 x.2])
theorem encPI_length (l : List (Int × Int)) : (encPI l).length = l.length * 2 := by
  induction l with
  | nil => rfl
  | cons x l ih => simp only [encPI, List.flatMap_cons, List.length_append, List.length_cons, List.length_nil] at ih ⊢; omega
theorem encPI_at : ∀ (l : List (Int × Int)) (i : Nat) (x : Int × Int), l[i]? = some x → (encPI l)[i * 2]? = some (.int .i64 x.1) ∧ (encPI l)[i * 2 + 1]? = some (.int .i64 x.2)
  | [], i, x, h => by simp at h
  | y :: l, 0, x, h => by
    simp only [List.getElem?_cons_zero, Option.some.injEq] at h
    subst h
    exact ⟨rfl, rfl⟩
  | y :: l, i + 1, x, h => by
    rw [List.getElem?_cons_succ] at h
    have := encPI_at l i x h
    rw [show (i + 1) * 2 = i * 2 + 1 + 1 by omega]
    exact this
theorem grown_refl (w : World) (r : Option Nat) : w.grownBy w r := ⟨rfl, rfl, rfl, Nat.le_refl _, fun _ _ _ => rfl⟩
theorem owns_pargI {w : World} {base : Nat} {v : Value} {l : List (Int × Int)} (h : w.ownsRow base 30 2 v l.length (encPI l)) (hl : l.length * 16 ≤ 140737488355328) : PArg w v l := by
  rcases h.2 with ⟨e, e2⟩ | ⟨g, cap, cur, e, _, hb, _, _, _, ht⟩
  · exact .inl ⟨none, 0, e.trans (by rw [e2] at *), List.eq_nil_of_length_eq_zero e2⟩
  · have hb : Blk w g 30 cur := hb
    have key : ∀ j u, (encPI l)[j]? = some u → w.cell? ⟨g, j, none⟩ = some u := by
      intro j u hj
      apply hb.cell
      rw [← ht, List.getElem?_take] at hj
      split at hj
      · rw [← Array.getElem?_toList]; exact hj
      · cases hj
    refine .inr ⟨g, 0, cap, e, ⟨hb.lt, fun i x hx => ?_, fun i x hx => ?_⟩, by omega⟩
    · rw [Nat.zero_add]; exact key _ _ (encPI_at l i x hx).1
    · rw [Nat.zero_add]; exact key _ _ (encPI_at l i x hx).2
def encEv (l : List Ev) : List Value := l.flatMap (fun e => [.int .i64 e.t, .int .i64 e.k, .int .i64 e.l, .int .u64 e.v, .int .i64 e.m])
theorem encEv_length (l : List Ev) : (encEv l).length = l.length * 5 := by
  induction l with
  | nil => rfl
  | cons a l ih => simp only [encEv, List.flatMap_cons, List.length_append, List.length_cons, List.length_nil] at *; omega
theorem encEv_cons (e : Ev) (l : List Ev) : encEv (e :: l) = .int .i64 e.t :: .int .i64 e.k :: .int .i64 e.l :: .int .u64 e.v :: .int .i64 e.m :: encEv l := rfl
theorem encEv_at : ∀ (l : List Ev) (i : Nat) (e : Ev) (j : Nat), l[i]? = some e → j < 5 → (encEv l)[i * 5 + j]? = evCell e j
  | [], i, e, j, h, _ => by simp at h
  | a :: l, 0, e, j, h, hj => by
    obtain rfl : a = e := by simpa using h
    rw [encEv_cons]
    obtain rfl | rfl | rfl | rfl | rfl : j = 0 ∨ j = 1 ∨ j = 2 ∨ j = 3 ∨ j = 4 := by omega
    all_goals rfl
  | a :: l, i + 1, e, j, h, hj => by
    have ih := encEv_at l i e j (by simpa using h) hj
    rw [encEv_cons, show (i + 1) * 5 + j = i * 5 + j + 1 + 1 + 1 + 1 + 1 by omega]
    simp only [List.getElem?_cons_succ]
    exact ih
theorem encEv_get : ∀ (l : List Ev) (j : Nat) (u : Value), (encEv l)[j]? = some u → ∃ i e k, l[i]? = some e ∧ k < 5 ∧ j = i * 5 + k ∧ evCell e k = some u := fun l j u h => by
  have hj : j < (encEv l).length := (List.getElem?_eq_some_iff.1 h).1
  rw [encEv_length] at hj
  have hi : j / 5 < l.length := by omega
  refine ⟨j / 5, l[j / 5], j % 5, List.getElem?_eq_getElem hi, by omega, by omega, ?_⟩
  rw [← encEv_at l (j / 5) _ (j % 5) (List.getElem?_eq_getElem hi) (by omega), show j / 5 * 5 + j % 5 = j by omega]
  exact h
theorem evCell_one {e : Ev} {k : Nat} {u : Value} (h : evCell e k = some u) : u.oneCell' = true := by
  unfold evCell at h
  split at h
  all_goals first | (cases h; rfl) | cases h
theorem EvsAt.at {w : World} {s o : Nat} {l : List Ev} (h : EvsAt w s o l) {i k : Nat} {e : Ev} {u : Value} (he : l[i]? = some e) (hk : evCell e k = some u) : w.cell? ⟨s, o + (i * 5 + k), none⟩ = some u := by
  unfold evCell at hk
  split at hk
  · cases hk; exact h.c0 i e he
  · cases hk; exact h.c1 i e he
  · cases hk; exact h.c2 i e he
  · cases hk; exact h.c3 i e he
  · cases hk; exact h.c4 i e he
  · cases hk
theorem Tryz.infoev : (Tryz.prog.info? 34).map (fun i => (i.zero, i.size, i.bytes)) = some (some (.agg #[.int .i64 0, .int .i64 0, .int .i64 0, .int .u64 0, .int .i64 0]), 5, 40) := by kernel_rfl
theorem owns_evarg {w : World} {base : Nat} {v : Value} {l : List Ev} (h : w.ownsRow base 34 5 v l.length (encEv l)) (hl : l.length * 40 ≤ 140737488355328) : EvArg w v l := by
  rcases h.2 with ⟨e, e2⟩ | ⟨g, cap, cur, e, _, hb, hc, _, _, ht⟩
  · exact ⟨none, 0, e.trans (by rw [e2]), fun h => by omega, hl, by omega⟩
  · have hb : Blk w g 34 cur := hb
    have key : ∀ j u, (encEv l)[j]? = some u → w.cell? ⟨g, j, none⟩ = some u := by
      intro j u hj
      apply hb.cell
      rw [← ht, List.getElem?_take] at hj
      split at hj
      · rw [← Array.getElem?_toList]; exact hj
      · cases hj
    refine ⟨_, cap, e, fun _ => ⟨g, 0, rfl, ⟨hb.lt, fun i x hx => ?_, fun i x hx => ?_, fun i x hx => ?_, fun i x hx => ?_, fun i x hx => ?_⟩⟩, hl, hc⟩
    · rw [Nat.zero_add]; exact key _ _ (encEv_at l i x 0 hx (by omega))
    · rw [Nat.zero_add]; exact key _ _ (encEv_at l i x 1 hx (by omega))
    · rw [Nat.zero_add]; exact key _ _ (encEv_at l i x 2 hx (by omega))
    · rw [Nat.zero_add]; exact key _ _ (encEv_at l i x 3 hx (by omega))
    · rw [Nat.zero_add]; exact key _ _ (encEv_at l i x 4 hx (by omega))
end Go.Proofs.YtmmadkghojoniaaGreatDoor
