/- What follows of a well-formed graph: the maths of GraphLaws. -/
import Derived.Test.YtjhhimjnoljojaaGreatDoorJ22
import Derived.Test.YtjhhimjnoljojaaGreatDoorJ21
import Derived.Test.YtjhhimjnoljojaaGreatDoorJ28
namespace Go.Proofs.YtjhhimjnoljojaaGreatDoor
open Go.RowKit Go.Shelf Sx
def Wf (g : Gr) (q : Bool) : Prop := ∀ j, j < 9 → rl g q j = -1
theorem fst_all {P : Nat → Bool} {a f : Nat} (h : fstBad P a f = -1) : ∀ j, a ≤ j → j < a + f → P j = false := by
  rcases fstBad_cases P f a with ⟨_, h2⟩ | ⟨i, h1, _⟩
  · exact h2
  · rw [h] at h1; omega
theorem rmw_po {g : Gr} {q : Bool} (h : Wf g q) {a b : Nat} (hm : memB g.rmw a b = true) : poB g.evs a b = true := by
  have h6 : bad6 g = -1 := h 5 (by omega)
  have hm := of_decide_eq_true hm
  obtain ⟨i, hi, e⟩ := List.mem_iff_getElem.1 hm
  have := fst_all h6 i (Nat.zero_le _) (by omega)
  rw [List.getD_eq_getElem?_getD, List.getElem?_eq_getElem hi, Option.getD_some, e] at this
  simp [okU, okUa] at this
  exact this.2.1.2
end Go.Proofs.YtjhhimjnoljojaaGreatDoor
