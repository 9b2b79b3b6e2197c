/- What follows of a well-formed graph: the maths of GraphLaws. -/
import Derived.Test.YtmmadkghojoniaaGreatDoorJ21
import Derived.Test.YtmmadkghojoniaaGreatDoorJ15
import Derived.Test.YtmmadkghojoniaaGreatDoorJ31
namespace Go.Proofs.YtmmadkghojoniaaGreatDoor
open Go.RowKit Go.Shelf Sx
def Wf (g : Gr) (q : Bool) : Prop := ∀ j, j < 9 → rl g q j = -1
theorem fst_all {P : Nat → Bool} {a f : Nat} (h : fstBad P a f = -1) : ∀ j, a ≤ j → j < a + f → P j = false := by
  rcases fstBad_cases P f a with ⟨_, h2⟩ | ⟨i, h1, _⟩
  · exact h2
  · rw [h] at h1; omega
end Go.Proofs.YtmmadkghojoniaaGreatDoor
