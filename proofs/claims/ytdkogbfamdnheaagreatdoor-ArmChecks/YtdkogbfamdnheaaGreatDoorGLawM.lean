import Derived.Test.YtdkogbfamdnheaaGreatDoorJ28
import Derived.Test.YtdkogbfamdnheaaGreatDoorJ31
namespace Go.Proofs.YtdkogbfamdnheaaGreatDoor
open Go.RowKit Go.Shelf Sx
set_option maxRecDepth 100000
set_option maxHeartbeats 16000000
set_option linter.unusedSimpArgs false
set_option linter.unusedVariables false
def Wf (g : Gr) (q : Bool) : Prop := ∀ j, j < 9 → rl g q j = -1
theorem Qvn {P : Nat → Bool} {a f : Nat} (h : Qa0 P a f = -1) : ∀ j, a ≤ j → j < a + f → P j = false := by
 rcases Qdw P f a with ⟨_, h2⟩ | ⟨i, h1, _⟩
 ·exact h2
 ·rw [h] at h1; omega
theorem Qq {l : List Int} {a b : Int} : (a, b) ∈ Qf8 l l.length ↔ ∃ i j : Nat, j < i ∧ l[j]? = some a ∧ l[i]? = some b := by
 unfold Qf8 Qfg
 simp only [List.mem_flatMap, List.mem_range, List.mem_map, Prod.mk.injEq]
 constructor
 ·rintro ⟨i, hi, x, hx, rfl, rfl⟩
  obtain ⟨j, hj, e⟩ := List.mem_iff_getElem.1 hx
  rw [List.length_take] at hj
  rw [List.getElem_take] at e
  exact ⟨i, j, oW, by rw [List.getElem?_eq_getElem oW, e], by rw [List.getD_eq_getElem?_getD, List.getElem?_eq_getElem hi]; rfl⟩
 ·rintro ⟨i, j, hji, h1, h2⟩
  have hi := (List.getElem?_eq_some_iff.1 h2).1
  refine ⟨i, hi, a, ?_, rfl, ?_⟩
  ·refine List.mem_of_getElem? (i := j) ?_
   rw [List.getElem?_take, if_pos hji]
   exact h1
  ·rw [List.getD_eq_getElem?_getD, h2]; rfl
theorem QGu {g : Gr} {a b : Nat} : coB g a b = true ↔ ∃ (c : Nat) (l : List Int) (i j : Nat), g.co[c]? = some l ∧ j < i ∧ l[j]? = some ((a : Nat) : Int) ∧ l[i]? = some ((b : Nat) : Int) := by
 unfold coB Qec
 rw [decide_eq_true_iff, List.take_length, List.mem_flatMap]
 constructor
 ·rintro ⟨l, hl, h⟩
  obtain ⟨c, hc⟩ := List.getElem?_of_mem hl
  obtain ⟨i, j, h1, h2, h3⟩ := Qq.1 h
  exact ⟨c, l, i, j, hc, h1, h2, h3⟩
 ·rintro ⟨c, l, i, j, hc, h1, h2, h3⟩
  exact ⟨l, List.mem_of_getElem? hc, Qq.2 ⟨i, j, h1, h2, h3⟩⟩
end Go.Proofs.YtdkogbfamdnheaaGreatDoor
