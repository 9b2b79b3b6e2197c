import Derived.Test.YtdkogbfamdnheaaGreatDoorJ37
import Derived.Test.YtdkogbfamdnheaaGreatDoorJ39
namespace Go.Proofs.YtdkogbfamdnheaaGreatDoor
open Go.RowKit Go.Shelf Sx
set_option maxRecDepth 100000
set_option maxHeartbeats 16000000
set_option linter.unusedSimpArgs false
set_option linter.unusedVariables false
structure LV where
 g : GV
 s : Nat
 n : Nat
 r : List Nat
 l : List (List Nat)
 i : List Int
structure Lm where
 m : Gm
 nf : Nat
 fb : Nat
 fx : Nat → List Nat
set_option maxRecDepth 100000
section
variable {M : Lm} {N : Nat} {w : World} {a : Act} {σ : Nat → LV} {Q : Exit → Act → World → Prop} {dst : Option Tmp} {ty : TypeId} {pos : String} {af : Array Edge} {gd : Option (Nat × Bool)} {x y : Operand} {tys : Array TypeId}
theorem QB1 {p : Option Addr} {n c : Nat} {t : TypeId} (ht : t = 25 ∨ t = 36) (hx : a.eval x = .slice p n c) : (execOp a.eval ⟨dst, .call ⟨.builtin .len, #[x], #[t]⟩, ty, pos, af, gd⟩).run Tryz.prog w = .ok (.value (.int .i64 ((n : Nat) : Int))) w := by
 rcases ht with rfl | rfl
 ·generalize a.eval = q at *
  go_simp
 ·generalize a.eval = q at *
  go_simp
end
end Go.Proofs.YtdkogbfamdnheaaGreatDoor
