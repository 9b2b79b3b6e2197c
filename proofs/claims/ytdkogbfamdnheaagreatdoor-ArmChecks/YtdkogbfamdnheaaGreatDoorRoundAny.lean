import Derived.Test.YtdkogbfamdnheaaGreatDoorW0
import Derived.OrdersIn
import Derived.RangeFuncCalls
import Derived.TacticsIn
import Derived.Great.Frames
namespace Go.Proofs.YtdkogbfamdnheaaGreatDoor
set_option maxRecDepth 100000
set_option maxHeartbeats 16000000
set_option linter.unusedSimpArgs false
set_option linter.unusedVariables false
section
variable {P : Program} {ops : Array Oper} {md : Region.Mode} {K : Act → World → Prop} {n l : Nat}
end
section
variable {P : Program} {ops : Array Oper} {md : Region.Mode} {Q : Exit → Act → World → Prop}
theorem Qh8 {i : Nat} {oi : Oper} {d : Option Tmp} {v : Value} {fuel : Nat} {listed : Array Bool} {a : Act} {w : World} (hi : ops[i]? = some oi) (hd : oi.dst = d)
  (hs : Region.noSelect ops = true) (hf : Region.free md ops listed i = true) (hr : (Region.ready md ops listed).contains i = true)
  (hQ : ∀ c a w, Q (.panic c) (a.put d v) w → Q (.panic c) a w) (hw : Region.wanted oi (yielded ops a.tmps) = true) (hy : ∀ w, (execOp a.eval oi).run P w = .ok (.value v) w)
  (h : wpAnyH P md ops Q (fun _ => True) fuel (listed.setIfInBounds i true) (a.put d v) w) : wpAnyH P md ops Q (fun _ => True) (fuel + 1) listed a w := by
 subst hd
 exact wpAnyH_take hi hs hf hr hQ (Or.inl ⟨hw, fun w _ => hy w⟩) trivial h
theorem Qcw {i : Nat} {o : Oper} {d : Option Tmp} {v : Value} {fuel : Nat} {listed : Array Bool} {a : Act} {w w' : World} {rs : List Nat} (ho : ops[i]? = some o) (hd : o.dst = d)
  (hw : Region.wanted o (yielded ops a.tmps) = true) (hrun : (execOp a.eval o).run P w = .ok (.value v) w')
  (h : wpAnyH P md ops Q (fun _ => True) fuel (listed.setIfInBounds i true) (a.put d v) w') (hs : AllReadyH P md ops Q (fun _ => True) fuel listed a w rs) :
  AllReadyH P md ops Q (fun _ => True) fuel listed a w (i :: rs) := by
 subst hd
 refine AllReadyH.cons ho (fun K hK => ?_) hs
 rw [if_pos hw]
 unfold Oper.wp
 rw [hrun]
 exact hK.out _ _ trivial (fun _ => h)
end
theorem zw : (∀ {α : Type} {xs : List α} {i : Nat} (h : i < xs.toArray.size), xs.toArray[i] = xs[i]'h) ∧ (∀ {α : Type} {a : α} {xs : List α} (h : 0 < (a :: xs).length), (a :: xs)[0] = a) ∧
  (∀ {α : Type} {a : α} {xs : List α} {i : Nat} (h : i + 1 < (a :: xs).length), (a :: xs)[i + 1] = xs[i]'(Nat.lt_of_succ_lt_succ h)) ∧ (∀ {α : Type} {l : List α} {i : Nat} {a : α}, l.toArray.setIfInBounds i a = (l.set i a).toArray) ∧
  (∀ {α : Type} {x a : α} {xs : List α}, List.set (x :: xs) 0 a = a :: xs) ∧ (∀ {α : Type} {x a : α} {xs : List α} {n : Nat}, List.set (x :: xs) (n + 1) a = x :: xs.set n a) :=
 ⟨fun h => List.getElem_toArray h, fun _ => rfl, fun _ => rfl, List.setIfInBounds_toArray .., rfl, rfl⟩
end Go.Proofs.YtdkogbfamdnheaaGreatDoor
