/- Code over a graph, its relations and their lists in memory is reckoned: gE and more. -/
import Derived.Test.YtdkogbfamdnheaaGreatDoorJ36
import Derived.Test.YtdkogbfamdnheaaGreatDoorJ38
import Derived.Test.YtdkogbfamdnheaaGreatDoorJ09
import Derived.Test.YtdkogbfamdnheaaGreatDoorJ15
namespace Go.Proofs.YtdkogbfamdnheaaGreatDoor
open Go.RowKit Go.Shelf Sx
set_option maxRecDepth 100000
set_option maxHeartbeats 16000000
set_option linter.unusedSimpArgs false
set_option linter.unusedVariables false
structure LV where
 g : GV
 s : Nat
 n : Nat
 r : List Nat
 l : List (List Nat)
 i : List Int
structure Lm where
 m : Gm
 nf : Nat
 fb : Nat
 fx : Nat → List Nat
set_option maxRecDepth 100000
section
variable {M : Lm} {N : Nat} {w : World} {a : Act} {σ : Nat → LV} {Q : Exit → Act → World → Prop} {dst : Option Tmp} {ty : TypeId} {pos : String} {af : Array Edge} {gd : Option (Nat × Bool)} {x y : Operand} {tys : Array TypeId}
theorem QAm {p : Option Addr} {n c : Nat} {t : TypeId} (ht : t = 25 ∨ t = 36) (hx : a.eval x = .slice p n c) : (execOp a.eval ⟨dst, .call ⟨.builtin .len, #[x], #[t]⟩, ty, pos, af, gd⟩).run Tryz.prog w = .ok (.value (.int .i64 ((n : Nat) : Int))) w := by
 rcases ht with rfl | rfl
 ·generalize a.eval = q at *
  go_simp
 ·generalize a.eval = q at *
  go_simp
end
theorem Eng.Ga.to {P : Program} {A : Type} {E : Eng P A} {T : Nat} {w0 w : World} {σ : Nat → A} {a : Act} (no : A) (ks : List (Nat × A)) (h : E.Ga T w0 σ a w) (h0 : E.isNo no = true) (hn : E.nw no = false) (hk : ks.map (fun p => σ p.1) = ks.map (·.2)) : E.Ga T w0 (Qas (fun _ => no) ks) a w := by
 refine h.less (fun d => ?_)
 rcases Qbm (σ := fun _ => no) (ks := ks) (x := d) with ⟨p, h1, rfl, h3⟩ | ⟨_, h2⟩
 ·exact .inr (h3.trans (List.map_inj_left.1 hk p h1).symm)
 ·exact .inl (by rw [h2]; exact ⟨h0, hn⟩)
theorem QFh {p q : Prop} (e : p = q) (h : p) : q := e ▸ h
end Go.Proofs.YtdkogbfamdnheaaGreatDoor
