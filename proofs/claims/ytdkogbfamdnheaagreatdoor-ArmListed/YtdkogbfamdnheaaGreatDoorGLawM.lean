import Derived.Test.YtdkogbfamdnheaaGreatDoorJ21
import Derived.Test.YtdkogbfamdnheaaGreatDoorJ27
namespace Go.Proofs.YtdkogbfamdnheaaGreatDoor
open Go.RowKit Go.Shelf Sx
set_option maxRecDepth 100000
set_option maxHeartbeats 16000000
set_option linter.unusedSimpArgs false
set_option linter.unusedVariables false
def Wf (g : Gr) (q : Bool) : Prop := ∀ j, j < 9 → rl g q j = -1
theorem Qh8 {P : Nat → Bool} {a f : Nat} (h : Qak P a f = -1) : ∀ j, a ≤ j → j < a + f → P j = false := by
 rcases Qd P f a with ⟨_, h2⟩ | ⟨i, h1, _⟩
 ·exact h2
 ·rw [h] at h1; omega
theorem Qvj (P : Ev → Bool) (l : List Ev) (k : Nat) : (Qa9 P l k).Pairwise (· < ·) := List.Pairwise.filter _ List.pairwise_lt_range
theorem QCv {g : Gr} {q : Bool} (h : Wf g q) {i : Nat} {x : Int × Int} (hx : g.rf[i]? = some x) : ∃ a b : Nat, x = (((a : Nat) : Int), ((b : Nat) : Int)) ∧ a < g.evs.length ∧ g.reads[i]? = some b := by
 have h4 : Qbt g = -1 := h 3 oW
 have hi := (List.getElem?_eq_some_iff.1 hx).1
 have hr : Qak (fun i => !(Qb0 g i (g.rf.getD i (0, 0)) && Qcp g (g.rf.getD i (0, 0)))) 0 g.rf.length = -1 := by
  unfold Qbt at h4
  dsimp only at h4
  split at h4
  ·assumption
  ·exact h4
 have := Qh8 hr i (Nat.zero_le _) oW
 rw [List.getD_eq_getElem?_getD, hx, Option.getD_some] at this
 simp [Qb0, isB] at this
 obtain ⟨⟨⟨h5, h6⟩, ⟨h7, h8⟩, _⟩, _⟩ := this
 refine ⟨x.1.toNat, g.reads.getD i 0, ?_, oW, ?_⟩
 ·refine Prod.ext ?_ ?_
  ·show x.1 = _; omega
  ·show x.2 = _; rw [h6, List.getD_eq_getElem?_getD]
 ·rw [List.getD_eq_getElem?_getD, List.getElem?_eq_getElem h5]; rfl
end Go.Proofs.YtdkogbfamdnheaaGreatDoor
