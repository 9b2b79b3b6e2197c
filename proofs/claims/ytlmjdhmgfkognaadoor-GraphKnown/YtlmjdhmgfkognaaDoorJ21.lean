/- The contracts of the document's own in, Has and Wide. -/
import Derived.Test.YtlmjdhmgfkognaaDoorJ20
import Derived.BigRegion
namespace Go.Proofs.YtlmjdhmgfkognaaDoor
open Go.RowKit Go.Shelf Sx

/-- Filled in row by row, as far as row a, place b. -/
def fillF (G F0 : Nat → Nat → Bool) (m a b : Nat) : Nat → Nat → Bool := fun x y => if (x < a ∧ y < m) ∨ (x = a ∧ y < b) then G x y else F0 x y
theorem fillF_zero (G F0 : Nat → Nat → Bool) (m : Nat) : fillF G F0 m 0 0 = F0 := by
  funext x y
  unfold fillF
  rw [if_neg (by omega)]
theorem fillF_put (G F0 : Nat → Nat → Bool) {m a b : Nat} : upd (fillF G F0 m a b) a b (G a b) = fillF G F0 m a (b + 1) := by
  funext x y
  unfold upd fillF
  by_cases h : x = a ∧ y = b
  · obtain ⟨rfl, rfl⟩ := h
    rw [if_pos ⟨rfl, rfl⟩, if_pos (by omega)]
  · rw [if_neg h]
    by_cases h2 : (x < a ∧ y < m) ∨ (x = a ∧ y < b)
    · rw [if_pos h2, if_pos (by omega)]
    · rw [if_neg h2, if_neg (by omega)]
theorem fillF_row (G F0 : Nat → Nat → Bool) (m a : Nat) : fillF G F0 m a m = fillF G F0 m (a + 1) 0 := by
  funext x y
  unfold fillF
  by_cases h : (x < a ∧ y < m) ∨ (x = a ∧ y < m)
  · rw [if_pos h, if_pos (by omega)]
  · rw [if_neg h, if_neg (by omega)]
theorem fillF_at (G F0 : Nat → Nat → Bool) (m a b : Nat) : fillF G F0 m a b a b = F0 a b := by
  unfold fillF
  rw [if_neg (by omega)]

def hasF (n : Nat) (F : Nat → Nat → Bool) (a b : Int) : Bool := inR n a && (inR n b && F a.toNat b.toNat)
end Go.Proofs.YtlmjdhmgfkognaaDoor
/- What the loops of the document's own makers keep. -/
namespace Go.Proofs.YtlmjdhmgfkognaaDoor
open Go.RowKit Go.Shelf Sx

section
variable {w W : World} {k : Nat} {bs : List (Nat × Array Value)} {B N : Nat} {M : Value} {rb : Nat → Nat} {F : Nat → Nat → Bool}
end

/-! Walking a region by hand where what is read stays as S says. -/
section
variable {P : Program} {ops : Array Oper} {md : Region.Mode} {Q : Exit → Act → World → Prop} {S : World → Prop}
theorem anyS_take {i : Nat} {oi : Oper} {d : Option Tmp} {v : Value} {fuel : Nat} {listed : Array Bool} {a : Act} {w : World} (hS : S w) (hi : ops[i]? = some oi) (hd : oi.dst = d)
    (hs : Region.noSelect ops = true) (hf : Region.free md ops listed i = true) (hr : (Region.ready md ops listed).contains i = true)
    (hQ : ∀ c a w, Q (.panic c) (a.put d v) w → Q (.panic c) a w) (hw : Region.wanted oi (yielded ops a.tmps) = true) (hy : ∀ w, S w → (execOp a.eval oi).run P w = .ok (.value v) w)
    (h : wpAnyH P md ops Q S fuel (listed.setIfInBounds i true) (a.put d v) w) : wpAnyH P md ops Q S (fuel + 1) listed a w := by
  subst hd
  exact wpAnyH_take hi hs hf hr hQ (Or.inl ⟨hw, fun w => hy w⟩) hS h
theorem wanted_off {o : Oper} {tmps : Array Value} {j d : Nat} {want : Bool} (hg : o.guard = some (j, want)) (hd : (ops[j]?).bind (·.dst) = some d) (ht : tmps[d]? = some (.bool (!want))) : Region.wanted o (yielded ops tmps) = false := by
  cases want <;> simp [Region.wanted, hg, yielded, hd, ht]
theorem anyS_off {i : Nat} {oi : Oper} {d : Option Tmp} {fuel : Nat} {listed : Array Bool} {a : Act} {w : World} (hS : S w) (hi : ops[i]? = some oi) (hd : oi.dst = d)
    (hs : Region.noSelect ops = true) (hf : Region.free md ops listed i = true) (hr : (Region.ready md ops listed).contains i = true)
    (hQ : ∀ c a w, Q (.panic c) (a.put d undef) w → Q (.panic c) a w) (hw : Region.wanted oi (yielded ops a.tmps) = false)
    (h : wpAnyH P md ops Q S fuel (listed.setIfInBounds i true) (a.put d undef) w) : wpAnyH P md ops Q S (fuel + 1) listed a w := by
  subst hd
  exact wpAnyH_take hi hs hf hr hQ (Or.inr ⟨hw, rfl⟩) hS h
theorem anyS_value {i : Nat} {o : Oper} {d : Option Tmp} {v : Value} {fuel : Nat} {listed : Array Bool} {a : Act} {w w' : World} {rs : List Nat} (ho : ops[i]? = some o) (hd : o.dst = d)
    (hw : Region.wanted o (yielded ops a.tmps) = true) (hrun : (execOp a.eval o).run P w = .ok (.value v) w') (hS : S w')
    (h : wpAnyH P md ops Q S fuel (listed.setIfInBounds i true) (a.put d v) w') (hs : AllReadyH P md ops Q S fuel listed a w rs) : AllReadyH P md ops Q S fuel listed a w (i :: rs) := by
  subst hd
  refine AllReadyH.cons ho (fun K hK => ?_) hs
  rw [if_pos hw]
  unfold Oper.wp
  rw [hrun]
  exact hK.out _ _ hS (fun _ => h)
theorem anyS_skip {i : Nat} {o : Oper} {d : Option Tmp} {fuel : Nat} {listed : Array Bool} {a : Act} {w w' : World} {rs : List Nat} (ho : ops[i]? = some o) (hd : o.dst = d)
    (hw : Region.wanted o (yielded ops a.tmps) = true) (hrun : (execOp a.eval o).run P w = .ok .skip w') (hS : S w')
    (h : wpAnyH P md ops Q S fuel (listed.setIfInBounds i true) (a.put d undef) w') (hs : AllReadyH P md ops Q S fuel listed a w rs) : AllReadyH P md ops Q S fuel listed a w (i :: rs) := by
  subst hd
  refine AllReadyH.cons ho (fun K hK => ?_) hs
  rw [if_pos hw]
  unfold Oper.wp
  rw [hrun]
  exact hK.out _ _ hS (fun _ => h)
theorem anyS_pass {i : Nat} {o : Oper} {d : Option Tmp} {fuel : Nat} {listed : Array Bool} {a : Act} {w : World} {rs : List Nat} (ho : ops[i]? = some o) (hd : o.dst = d)
    (hw : Region.wanted o (yielded ops a.tmps) = false) (hS : S w)
    (h : wpAnyH P md ops Q S fuel (listed.setIfInBounds i true) (a.put d undef) w) (hs : AllReadyH P md ops Q S fuel listed a w rs) : AllReadyH P md ops Q S fuel listed a w (i :: rs) := by
  subst hd
  refine AllReadyH.cons ho (fun K hK => ?_) hs
  rw [if_neg (by rw [hw]; simp)]
  exact hK.out _ _ hS (fun _ => h)
theorem anyS_enter {i : Nat} {o : Oper} {d : Option Tmp} {f : FuncId} {args : Array Value} {fuel : Nat} {listed : Array Bool} {a : Act} {w w' : World} {rs : List Nat} (ho : ops[i]? = some o) (hd : o.dst = d)
    (hw : Region.wanted o (yielded ops a.tmps) = true) (hrun : (execOp a.eval o).run P w = .ok (.enter f args) w')
    (h : Calls P f args w' fun e w1 => ∃ v, e = .returned v ∧ S w1 ∧ wpAnyH P md ops Q S fuel (listed.setIfInBounds i true) (a.put d v) w1) (hs : AllReadyH P md ops Q S fuel listed a w rs) :
    AllReadyH P md ops Q S fuel listed a w (i :: rs) := by
  subst hd
  refine AllReadyH.cons ho (fun K hK => ?_) hs
  rw [if_pos hw]
  unfold Oper.wp
  rw [hrun]
  refine h.mono ?_
  rintro e w1 ⟨v, rfl, hS, h1⟩
  exact hK.out _ _ hS (fun _ => h1)
end
end Go.Proofs.YtlmjdhmgfkognaaDoor
