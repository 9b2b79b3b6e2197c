/- What follows of a well-formed graph: the maths of GraphLaws. -/
import Derived.Test.YtmmadkghojoniaaGreatDoorJ21
import Derived.Test.YtmmadkghojoniaaGreatDoorJ15
import Derived.Test.YtmmadkghojoniaaGreatDoorJ31
namespace Go.Proofs.YtmmadkghojoniaaGreatDoor
open Go.RowKit Go.Shelf Sx
def Wf (g : Gr) (q : Bool) : Prop := ∀ j, j < 9 → rl g q j = -1
theorem fst_all {P : Nat → Bool} {a f : Nat} (h : fstBad P a f = -1) : ∀ j, a ≤ j → j < a + f → P j = false := by
  rcases fstBad_cases P f a with ⟨_, h2⟩ | ⟨i, h1, _⟩
  · exact h2
  · rw [h] at h1; omega
theorem rmw_po {g : Gr} {q : Bool} (h : Wf g q) {a b : Nat} (hm : memB g.rmw a b = true) : poB g.evs a b = true := by
  have h6 : bad6 g = -1 := h 5 (by omega)
  have hm := of_decide_eq_true hm
  obtain ⟨i, hi, e⟩ := List.mem_iff_getElem.1 hm
  have := fst_all h6 i (Nat.zero_le _) (by omega)
  rw [List.getD_eq_getElem?_getD, List.getElem?_eq_getElem hi, Option.getD_some, e] at this
  simp [okU, okUa] at this
  exact this.2.1.2
theorem mem_ordIn {l : List Int} {a b : Int} : (a, b) ∈ ordIn l l.length ↔ ∃ i j : Nat, j < i ∧ l[j]? = some a ∧ l[i]? = some b := by
  unfold ordIn ordRow
  simp only [List.mem_flatMap, List.mem_range, List.mem_map, Prod.mk.injEq]
  constructor
  · rintro ⟨i, hi, x, hx, rfl, rfl⟩
    obtain ⟨j, hj, e⟩ := List.mem_iff_getElem.1 hx
    rw [List.length_take] at hj
    rw [List.getElem_take] at e
    exact ⟨i, j, by omega, by rw [List.getElem?_eq_getElem (by omega), e], by rw [List.getD_eq_getElem?_getD, List.getElem?_eq_getElem hi]; rfl⟩
  · rintro ⟨i, j, hji, h1, h2⟩
    have hi := (List.getElem?_eq_some_iff.1 h2).1
    refine ⟨i, hi, a, ?_, rfl, ?_⟩
    · refine List.mem_of_getElem? (i := j) ?_
      rw [List.getElem?_take, if_pos hji]
      exact h1
    · rw [List.getD_eq_getElem?_getD, h2]; rfl
theorem co_iff {g : Gr} {a b : Nat} : coB g a b = true ↔ ∃ (c : Nat) (l : List Int) (i j : Nat), g.co[c]? = some l ∧ j < i ∧ l[j]? = some ((a : Nat) : Int) ∧ l[i]? = some ((b : Nat) : Int) := by
  unfold coB ordAll
  rw [decide_eq_true_iff, List.take_length, List.mem_flatMap]
  constructor
  · rintro ⟨l, hl, h⟩
    obtain ⟨c, hc⟩ := List.getElem?_of_mem hl
    obtain ⟨i, j, h1, h2, h3⟩ := mem_ordIn.1 h
    exact ⟨c, l, i, j, hc, h1, h2, h3⟩
  · rintro ⟨c, l, i, j, hc, h1, h2, h3⟩
    exact ⟨l, List.mem_of_getElem? hc, mem_ordIn.2 ⟨i, j, h1, h2, h3⟩⟩
theorem rf_at {g : Gr} {q : Bool} (h : Wf g q) {i : Nat} {x : Int × Int} (hx : g.rf[i]? = some x) : ∃ a b : Nat, x = (((a : Nat) : Int), ((b : Nat) : Int)) ∧ a < g.evs.length ∧ g.reads[i]? = some b := by
  have h4 : bad4 g = -1 := h 3 (by omega)
  have hi := (List.getElem?_eq_some_iff.1 hx).1
  have hr : fstBad (fun i => !(ok4a g i (g.rf.getD i (0, 0)) && ok4b g (g.rf.getD i (0, 0)))) 0 g.rf.length = -1 := by
    unfold bad4 at h4
    dsimp only at h4
    split at h4
    · assumption
    · exact h4
  have := fst_all hr i (Nat.zero_le _) (by omega)
  rw [List.getD_eq_getElem?_getD, hx, Option.getD_some] at this
  simp [ok4a, isB] at this
  obtain ⟨⟨⟨h5, h6⟩, ⟨h7, h8⟩, _⟩, _⟩ := this
  refine ⟨x.1.toNat, g.reads.getD i 0, ?_, by omega, ?_⟩
  · refine Prod.ext ?_ ?_
    · show x.1 = _; omega
    · show x.2 = _; rw [h6, List.getD_eq_getElem?_getD]
  · rw [List.getD_eq_getElem?_getD, List.getElem?_eq_getElem h5]; rfl
end Go.Proofs.YtmmadkghojoniaaGreatDoor
