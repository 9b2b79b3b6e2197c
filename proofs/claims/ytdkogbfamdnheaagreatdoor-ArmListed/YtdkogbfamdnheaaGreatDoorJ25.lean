import Derived.Test.YtdkogbfamdnheaaGreatDoorJ05
import Derived.Great.Frames
namespace Go.Proofs.YtdkogbfamdnheaaGreatDoor
open Go.RowKit
set_option maxRecDepth 100000
set_option maxHeartbeats 16000000
set_option linter.unusedSimpArgs false
set_option linter.unusedVariables false
def Qcs (l : List Operand) : List Nat := l.filterMap (fun x => match x with
 | .tmp t => some t
 | _ => none)
structure Eng (P : Program) (A : Type) where
 Is : Nat → World → A → Value → Prop
 G : World → Prop
 isNo : A → Bool
 nw : A → Bool
 isB : A → Bool
 bv : A → Bool
 con : Operand → A
 pk : Bool → A → A → Option A
 opR : (Nat → A) → Op → Option A
 pre : (Nat → A) → Op → Option Prop
 mono : ∀ {N : Nat} {w w' : World} {x : A} {v : Value}, Is N w x v → Below w.heap.size w w' → Is N w' x v
 gmono : ∀ {w w' : World}, G w → Below w.heap.size w w' → G w'
 any : ∀ {N : Nat} {w : World} {x : A} {v : Value}, isNo x = true → Is N w x v
 chg : ∀ {N N' : Nat} {w : World} {x : A} {v : Value}, nw x = false → Is N w x v → Is N' w x v
 bool : ∀ {N : Nat} {w : World} {x : A} {v : Value}, isB x = true → Is N w x v → v = .bool (bv x)
 conOk : ∀ {N : Nat} {w : World} {a : Act} {x : Operand}, (∀ d, x ≠ .tmp d) → Is N w (con x) (a.eval x)
 pkOk : ∀ {N : Nat} {w : World} {b : Bool} {x y z : A} {v : Value}, pk b x y = some z → Is N w (if b then x else y) v → Is N w z v
 ok : ∀ {N : Nat} {w : World} {a : Act} {σ : Nat → A} {o : Oper} {av : A} {Q : Exit → Act → World → Prop}, G w → N ≤ w.heap.size → opR σ o.op = some av → (∀ p, pre σ o.op = some p → p) →
  (∀ d ∈ Qcs o.op.operands.toList, Is N w (σ d) (a.eval (.tmp d))) → o.wp P a w (fun a' w' => ∃ v, a' = a.put o.dst v ∧ Is N w' av v ∧ Below w.heap.size w w') Q
def Qbe (ops : Array Oper) (i : Nat) : Option Nat := (ops[i]?).bind (fun o => o.dst)
theorem Qfi {ops : Array Oper} {i : Nat} {o : Oper} (h : ops[i]? = some o) : Qbe ops i = o.dst := by
 unfold Qbe
 rw [h]
 rfl
def gds (ops : Array Oper) : List (List (Nat × Bool)) :=
 ops.toList.foldl (fun l o => l ++ [match o.guard with
  | none => []
  | some (j, b) => (j, b) :: l.getD j []]) []
section
variable {P : Program} {A : Type} (E : Eng P A)
def Eng.opA (σ : Nat → A) : Operand → A
 | .tmp d => σ d
 | x => E.con x
def Eng.stepR (σ : Nat → A) : Op → Option A
 | .pick (.tmp c) x y => if E.isB (σ c) then E.pk (E.bv (σ c)) (E.opA σ x) (E.opA σ y) else none
 | .move x => some (E.opA σ x)
 | .assign x => some (E.opA σ x)
 | o => E.opR σ o
def Eng.goT : List Oper → (Nat → A) → (Nat → A)
 | [], σ => σ
 | o :: l, σ => match E.stepR σ o.op, o.dst with
  | some av, some d => Eng.goT l (fun x => if x = d then av else σ x)
  | _, _ => Eng.goT l σ
def Eng.sucT (ops : Array Oper) : List Oper → (Nat → A) → Bool
 | [], _ => true
 | o :: l, σ => (match o.guard with
   | none => true
   | some (j, _) => E.isB (σ ((Qbe ops j).getD 0))) && match E.stepR σ o.op, o.dst with
  | some av, some d => Eng.sucT ops l (fun x => if x = d then av else σ x)
  | some _, none => Eng.sucT ops l σ
  | none, _ => false
def Eng.hold (ops : Array Oper) (τ : Nat → A) (l : List (Nat × Bool)) : Bool := l.all (fun p => E.bv (τ ((Qbe ops p.1).getD 0)) == p.2)
def Eng.vcT (ops : Array Oper) (τ : Nat → A) : List Oper → List (List (Nat × Bool)) → (Nat → A) → Prop
 | [], _, _ => True
 | o :: l, g, σ => match E.pre σ o.op with
  | none => Eng.vcT ops τ l g.tail (E.goT [o] σ)
  | some p => (E.hold ops τ (g.headD []) = true → p) ∧ Eng.vcT ops τ l g.tail (E.goT [o] σ)
end
def rdQ (ops : Array Oper) (ps : List (List (Nat × Bool))) (n i : Nat) (o : Oper) (x : List (Nat × Bool)) (d : Nat) : Bool :=
 (List.range n).all (fun j => Qbe ops j != some d || (match ops[j]? with
  | none => false
  | some q => q.after.toList.any (fun e => Region.binds .any e && e.on == i))) ||
 o.after.toList.any (fun e => Region.binds .any e && (decide (e.on < n) && (Qbe ops e.on == some d && (ps.getD e.on []).all (fun p => (x ++ ps.getD i []).contains p))))
def okI (ops : Array Oper) (ps : List (List (Nat × Bool))) (n T i : Nat) : Bool :=
 match ops[i]? with
 | none => false
 | some o => o.after.toList.all (fun e => !Region.binds .any e || decide (e.on < i)) && ((match o.guard with
   | none => ps.getD i [] == []
   | some (j, b) => decide (j < n) && (ps.getD i [] == (j, b) :: ps.getD j [] && (o.after.toList.any (fun e => Region.binds .any e && e.on == j) && (Qbe ops j).isSome))) &&
  ((match o.op with
   | .pick (.tmp c) x y => o.after.toList.any (fun e => Region.binds .any e && (decide (e.on < n) && (Qbe ops e.on == some c && ((ps.getD e.on []).all (fun p => (ps.getD i []).contains p) &&
     ((Qcs [x]).all (rdQ ops ps n i o [(e.on, true)]) && (Qcs [y]).all (rdQ ops ps n i o [(e.on, false)]))))))
   | op => (Qcs op.operands.toList).all (rdQ ops ps n i o [])) &&
  (match o.dst with
   | none => true
   | some d => decide (d < T) && (List.range n).all (fun j => j == i || Qbe ops j != some d))))
def okR (ops : Array Oper) (n m T : Nat) : Bool := (List.range m).all (okI ops (gds ops) n T)
structure Eng.Ga {P : Program} {A : Type} (E : Eng P A) (T : Nat) (w0 : World) (σ : Nat → A) (a : Act) (w : World) : Prop where
 low : Below w0.heap.size w0 w
 g : E.G w
 is : ∀ d, E.Is 0 w (σ d) (a.eval (.tmp d))
 nw : ∀ d, E.nw (σ d) = false
 sz : a.tmps.size = T
 df : a.defers = []
structure Eng.Mid {P : Program} {A : Type} (E : Eng P A) (T : Nat) (ops : Array Oper) (ps : List (List (Nat × Bool))) (n : Nat) (τ : Nat → A) (a1 : Act) (w1 : World) (L : Nat → Bool) (a : Act) (w : World) : Prop where
 low : Below w1.heap.size w1 w
 cl : ∀ j o, j < n → L j = true → ops[j]? = some o → ∀ e ∈ o.after, Region.binds .any e = true → L e.on = true
 done : ∀ j d, j < n → L j = true → Qbe ops j = some d → (E.hold ops τ (ps.getD j []) = true → E.Is w1.heap.size w (τ d) (a.eval (.tmp d))) ∧ (E.hold ops τ (ps.getD j []) = false → a.eval (.tmp d) = undef)
 rest : ∀ d, (∀ j, j < n → L j = true → Qbe ops j ≠ some d) → a.eval (.tmp d) = a1.eval (.tmp d)
 sz : a.tmps.size = T
 df : a.defers = []
section
variable {P : Program} {A : Type} {E : Eng P A}
theorem Qna {d : Nat} : ∀ (l : List Oper) (σ : Nat → A), (∀ o ∈ l, o.dst ≠ some d) → E.goT l σ d = σ d
 | [], _, _ => rfl
 | o :: l, σ, h => by
  have hl := fun σ' => Qna l σ' (fun o ho => h o (List.mem_cons_of_mem _ ho))
  unfold Eng.goT
  cases E.stepR σ o.op with
  | none => exact hl σ
  | some av =>
   cases hd : o.dst with
   | none => exact hl σ
   | some e =>
    dsimp only
    rw [hl]
    exact if_neg (fun e' => h o List.mem_cons_self (by rw [hd, e']))
theorem Qnb : ∀ (l m : List Oper) (σ : Nat → A), E.goT (l ++ m) σ = E.goT m (E.goT l σ)
 | [], _, _ => rfl
 | o :: l, m, σ => by
  have hl := Qnb l m
  cases h1 : E.stepR σ o.op with
  | none => simp only [List.cons_append, Eng.goT, h1]; exact hl σ
  | some av =>
   cases h2 : o.dst with
   | none => simp only [List.cons_append, Eng.goT, h1, h2]; exact hl σ
   | some e => simp only [List.cons_append, Eng.goT, h1, h2]; exact hl _
theorem Qqe {ops : Array Oper} : ∀ (l : List Oper) (σ : Nat → A) (i : Nat) (o : Oper), E.sucT ops l σ = true → l[i]? = some o →
  ∃ av, E.stepR (E.goT (l.take i) σ) o.op = some av ∧ (∀ d, o.dst = some d → E.goT (l.take (i + 1)) σ d = av) ∧ ∀ j b, o.guard = some (j, b) → E.isB (E.goT (l.take i) σ ((Qbe ops j).getD 0)) = true
 | [], _, _, _, _, h => by simp at h
 | p :: l, σ, i, o, hs, h => by
  unfold Eng.sucT at hs
  rw [Bool.and_eq_true] at hs
  obtain ⟨hg, hs⟩ := hs
  cases hp : E.stepR σ p.op with
  | none => rw [hp] at hs; cases hs
  | some av =>
   cases i with
   | zero =>
    obtain rfl : p = o := by simpa using h
    refine ⟨av, hp, fun d hd => ?_, fun j b hj => ?_⟩
    ·rw [show (p :: l).take (0 + 1) = [p] from rfl, Eng.goT, hp, hd]
     exact if_pos rfl
    ·rw [hj] at hg
     exact hg
   | succ i =>
    cases hd : p.dst with
    | none =>
     rw [hp, hd] at hs
     have hgo : ∀ m, E.goT (p :: m) σ = E.goT m σ := fun m => by rw [Eng.goT, hp, hd]
     have ih := Qqe l _ i o hs (by simpa using h)
     rw [show (p :: l).take (i + 1) = p :: l.take i from rfl, show (p :: l).take (i + 1 + 1) = p :: l.take (i + 1) from rfl, hgo, hgo]
     exact ih
    | some d =>
     rw [hp, hd] at hs
     have hgo : ∀ m, E.goT (p :: m) σ = E.goT m (fun x => if x = d then av else σ x) := fun m => by rw [Eng.goT, hp, hd]
     have ih := Qqe l _ i o hs (by simpa using h)
     rw [show (p :: l).take (i + 1) = p :: l.take i from rfl, show (p :: l).take (i + 1 + 1) = p :: l.take (i + 1) from rfl, hgo, hgo]
     exact ih
theorem Qy6 {ops : Array Oper} {τ : Nat → A} : ∀ (l : List Oper) (g : List (List (Nat × Bool))) (σ : Nat → A) (i : Nat) (o : Oper), E.vcT ops τ l g σ → l[i]? = some o → E.hold ops τ (g.getD i []) = true → ∀ p, E.pre (E.goT (l.take i) σ) o.op = some p → p
 | [], _, _, _, _, _, h, _ => by simp at h
 | q :: l, g, σ, i, o, hv, h, hh => by
  have hv2 : E.vcT ops τ l g.tail (E.goT [q] σ) := by
   unfold Eng.vcT at hv
   cases hp : E.pre σ q.op with
   | none => rw [hp] at hv; exact hv
   | some p => rw [hp] at hv; exact hv.2
  cases i with
  | zero =>
   obtain rfl : q = o := by simpa using h
   intro p hp
   unfold Eng.vcT at hv
   rw [show E.pre σ q.op = some p from hp] at hv
   refine hv.1 ?_
   rw [show g.headD [] = g.getD 0 [] by cases g <;> rfl]
   exact hh
  | succ i =>
   have := Qy6 l g.tail (E.goT [q] σ) i o hv2 (by simpa using h) (by rw [show g.tail.getD i [] = g.getD (i + 1) [] by cases g <;> simp]; exact hh)
   rw [← Qnb] at this
   exact this
theorem Qal {l : List Operand} {d : Nat} : d ∈ Qcs l ↔ Operand.tmp d ∈ l := by
 unfold Qcs
 rw [List.mem_filterMap]
 constructor
 ·rintro ⟨x, hx, he⟩
  cases x <;> simp at he
  rw [← he]
  exact hx
 ·exact fun h => ⟨_, h, rfl⟩
theorem Qmg {N : Nat} {w : World} {a : Act} {σ : Nat → A} {x : Operand} (h : ∀ d, x = .tmp d → E.Is N w (σ d) (a.eval (.tmp d))) : E.Is N w (E.opA σ x) (a.eval x) := by
 cases x with
 | tmp d => exact h d rfl
 | const v => exact E.conOk (fun d e => by cases e)
 | global v => exact E.conOk (fun d e => by cases e)
 | func v => exact E.conOk (fun d e => by cases e)
theorem Qb6 {a : Act} {w : World} {Q : Exit → Act → World → Prop} {K : Act → World → Prop} {o : Oper} {f : FuncId} {args : Array Value} (h : (execOp a.eval o).run P w = .ok (.enter f args) w) (hc : Calls P f args w (fun e w'' => ∃ v, e = .returned v ∧ K (a.put o.dst v) w'')) : o.wp P a w K Q := by
 unfold Oper.wp
 rw [h, Oper.upon_enter]
 refine hc.mono ?_
 rintro e w'' ⟨v, rfl, hk⟩
 exact hk
theorem Qbn {a : Act} {w w' : World} {Q : Exit → Act → World → Prop} {K : Act → World → Prop} {o : Oper} {v : Value} (h : (execOp a.eval o).run P w = .ok (.value v) w') (hK : K (a.put o.dst v) w') : o.wp P a w K Q := by
 unfold Oper.wp
 rw [h]
 exact hK
theorem Qz9 {N : Nat} {w : World} {a : Act} {σ : Nat → A} {o : Oper} {av : A} {Q : Exit → Act → World → Prop} (hG : E.G w) (hN : N ≤ w.heap.size) (h : E.stepR σ o.op = some av) (hp : ∀ p, E.pre σ o.op = some p → p)
  (hx : (∀ d ∈ Qcs o.op.operands.toList, E.Is N w (σ d) (a.eval (.tmp d))) ∨ ∃ c x y, o.op = .pick (.tmp c) x y ∧ E.Is N w (σ c) (a.eval (.tmp c)) ∧ (E.bv (σ c) = true → ∀ d, x = .tmp d → E.Is N w (σ d) (a.eval (.tmp d))) ∧ (E.bv (σ c) = false → ∀ d, y = .tmp d → E.Is N w (σ d) (a.eval (.tmp d)))) :
  o.wp P a w (fun a' w' => ∃ v, a' = a.put o.dst v ∧ E.Is N w' av v ∧ Below w.heap.size w w') Q := by
 have key : ∀ c x y, o.op = .pick (.tmp c) x y → E.Is N w (σ c) (a.eval (.tmp c)) → (E.bv (σ c) = true → ∀ d, x = .tmp d → E.Is N w (σ d) (a.eval (.tmp d))) → (E.bv (σ c) = false → ∀ d, y = .tmp d → E.Is N w (σ d) (a.eval (.tmp d))) → o.wp P a w (fun a' w' => ∃ v, a' = a.put o.dst v ∧ E.Is N w' av v ∧ Below w.heap.size w w') Q := by
  intro c x y e hc h1 h2
  rw [e] at h
  unfold Eng.stepR at h
  dsimp only at h
  by_cases hb : E.isB (σ c) = true
  ·rw [if_pos hb] at h
   have hv := E.bool hb hc
   refine Qbn (v := if E.bv (σ c) then a.eval x else a.eval y) (w' := w) ?_ ⟨_, rfl, E.pkOk h ?_, Below.refl _ _⟩
   ·obtain ⟨dst, op, ty, pos, af, gd⟩ := o
    dsimp only at e
    subst e
    have : (execOp a.eval ⟨dst, .pick (.tmp c) x y, ty, pos, af, gd⟩).run P w = (do pure (Next.value (if ← asBool (a.eval (.tmp c)) then a.eval x else a.eval y)) : Sem Next).run P w := rfl
    rw [this, hv]
    rfl
   ·cases hbv : E.bv (σ c)
    ·exact Qmg (h2 hbv)
    ·exact Qmg (h1 hbv)
  ·rw [if_neg hb] at h
   cases h
 obtain ⟨dst, op, ty, pos, af, gd⟩ := o
 dsimp only at h hp hx key ⊢
 rcases hx with hx | ⟨c, x, y, e, h1, h2, h3⟩
 ·unfold Eng.stepR at h
  split at h
  ·rename_i c x y
   exact key c x y rfl (hx c (Qal.2 (by simp [Op.operands]))) (fun _ d e => hx d (Qal.2 (by simp [Op.operands, e]))) (fun _ d e => hx d (Qal.2 (by simp [Op.operands, e])))
  ·rename_i x
   cases h
   exact Qbn (o := ⟨dst, .move x, ty, pos, af, gd⟩) (v := a.eval x) (w' := w) rfl ⟨_, rfl, Qmg (fun d e => hx d (Qal.2 (by simp [Op.operands, e]))), Below.refl _ _⟩
  ·rename_i x
   cases h
   exact Qbn (o := ⟨dst, .assign x, ty, pos, af, gd⟩) (v := a.eval x) (w' := w) rfl ⟨_, rfl, Qmg (fun d e => hx d (Qal.2 (by simp [Op.operands, e]))), Below.refl _ _⟩
  ·exact E.ok (o := ⟨dst, op, ty, pos, af, gd⟩) hG hN h hp hx
 ·exact key c x y e h1 h2 h3
end
section
variable {P : Program}
variable {a : Act} {w : World} {Q : Exit → Act → World → Prop} {dst : Option Tmp} {ty : TypeId} {pos : String} {af : Array Edge} {gd : Option (Nat × Bool)} {x y : Operand}
theorem Qb1 {o : Oper} {K : Act → World → Prop} {s : Sem Value} {v : Value} {w' : World} (e : (execOp a.eval o).run P w = (do pure (Next.value (← s)) : Sem Next).run P w) (h : s.run P w = .ok v w') (hK : K (a.put o.dst v) w') : o.wp P a w K Q := by
 refine Qbn (v := v) (w' := w') ?_ hK
 rw [e, Sem.run_bind, h]
 rfl
theorem Qyc {ps : Array (Nat × Operand)} {n : Nat} {vs : List Value} (h : ps.toList.map (·.1) = List.range n) (hv : ps.toList.map (fun p => a.eval p.2) = vs) : (ps.map fun (i, x) => (i, a.eval x)) = (List.zip (List.range n) vs).toArray := by
 rw [← h, ← hv, List.zip_map', ← Array.toList_inj, Array.toList_map]
theorem Qwe {K : Act → World → Prop} {t : TypeId} {n : Nat} {ps : Array (Nat × Operand)} {v : Value} {w' : World} {vs : List Value} (h : ps.toList.map (·.1) = List.range n) (hv : ps.toList.map (fun p => a.eval p.2) = vs) (hr : (Instr.buildSlice t n (List.zip (List.range n) vs).toArray).run P w = .ok v w') (hK : K (a.put dst v) w') :
  Oper.wp P ⟨dst, .buildSlice t n ps, ty, pos, af, gd⟩ a w K Q := by
 refine Qb1 (o := ⟨dst, .buildSlice t n ps, ty, pos, af, gd⟩) (s := Instr.buildSlice t n (ps.map fun (i, x) => (i, a.eval x))) kW ?_ hK
 rw [Qyc h hv]
 exact hr
theorem Qjz {f : Nat} {tys : Array TypeId} {u : Value} (hv : a.eval x = u) (h : ∀ u w, (callFunc f #[u]).run P w = .ok (.enter f #[u]) w) : (execOp a.eval ⟨dst, .call ⟨.value (.func f), #[x], tys⟩, ty, pos, af, gd⟩).run P w = .ok (.enter f #[u]) w := by
 have e : (execOp a.eval ⟨dst, .call ⟨.value (.func f), #[x], tys⟩, ty, pos, af, gd⟩).run P w = (callFunc f #[a.eval x]).run P w := by kernel_rfl
 rw [e, hv]
 exact h u w
theorem Qe2 {f : Nat} {tys : Array TypeId} {u v : Value} (hu : a.eval x = u) (hv : a.eval y = v) (h : ∀ u v w, (callFunc f #[u, v]).run P w = .ok (.enter f #[u, v]) w) : (execOp a.eval ⟨dst, .call ⟨.value (.func f), #[x, y], tys⟩, ty, pos, af, gd⟩).run P w = .ok (.enter f #[u, v]) w := by
 have e : (execOp a.eval ⟨dst, .call ⟨.value (.func f), #[x, y], tys⟩, ty, pos, af, gd⟩).run P w = (callFunc f #[a.eval x, a.eval y]).run P w := by kernel_rfl
 rw [e, hu, hv]
 exact h u v w
end
set_option linter.unusedVariables false
section
variable {ops : Array Oper} {ps : List (List (Nat × Bool))} {n T i : Nat} {o : Oper}
def Rd (ops : Array Oper) (ps : List (List (Nat × Bool))) (n i : Nat) (o : Oper) (x : List (Nat × Bool)) (d : Nat) : Prop :=
 (∀ j, j < n → Qbe ops j = some d → ∃ q e, ops[j]? = some q ∧ e ∈ q.after ∧ Region.binds .any e = true ∧ e.on = i) ∨
 ∃ e ∈ o.after, Region.binds .any e = true ∧ e.on < n ∧ Qbe ops e.on = some d ∧ ∀ p ∈ ps.getD e.on [], p ∈ x ++ ps.getD i []
theorem Qt0 {x : List (Nat × Bool)} {d : Nat} (h : rdQ ops ps n i o x d = true) : Rd ops ps n i o x d := by
 unfold rdQ at h
 rw [Bool.or_eq_true] at h
 rcases h with h | h
 ·refine .inl (fun j hj hd => ?_)
  have h1 := List.all_eq_true.1 h j (List.mem_range.2 hj)
  rw [hd] at h1
  cases hq : ops[j]? with
  | none => rw [hq] at h1; simp at h1
  | some q =>
   rw [hq] at h1
   simp only [bne_self_eq_false, Bool.false_or] at h1
   obtain ⟨e, he, h2⟩ := List.any_eq_true.1 h1
   rw [Bool.and_eq_true] at h2
   exact ⟨q, e, rfl, Array.mem_toList_iff.1 he, h2.1, by simpa using h2.2⟩
 ·obtain ⟨e, he, h2⟩ := List.any_eq_true.1 h
  simp only [Bool.and_eq_true] at h2
  obtain ⟨h3, h4, h5, h6⟩ := h2
  exact .inr ⟨e, Array.mem_toList_iff.1 he, h3, of_decide_eq_true h4, by simpa using h5, fun p hp => by simpa using List.all_eq_true.1 h6 p hp⟩
structure OkI (ops : Array Oper) (ps : List (List (Nat × Bool))) (n T i : Nat) (o : Oper) : Prop where
 back : ∀ e ∈ o.after, Region.binds .any e = true → e.on < i
 free : o.guard = none → ps.getD i [] = []
 grd : ∀ j b, o.guard = some (j, b) → j < n ∧ ps.getD i [] = (j, b) :: ps.getD j [] ∧ (∃ e ∈ o.after, Region.binds .any e = true ∧ e.on = j) ∧ (Qbe ops j).isSome = true
 rd : (∀ d ∈ Qcs o.op.operands.toList, Rd ops ps n i o [] d) ∨ ∃ c x y, o.op = .pick (.tmp c) x y ∧ ∃ e ∈ o.after, Region.binds .any e = true ∧ e.on < n ∧ Qbe ops e.on = some c ∧ (∀ p ∈ ps.getD e.on [], p ∈ ps.getD i []) ∧
  (∀ d, x = .tmp d → Rd ops ps n i o [(e.on, true)] d) ∧ (∀ d, y = .tmp d → Rd ops ps n i o [(e.on, false)] d)
 dst : ∀ d, o.dst = some d → d < T ∧ ∀ j, j < n → j ≠ i → Qbe ops j ≠ some d
theorem Qqf (h : okI ops ps n T i = true) (ho : ops[i]? = some o) : OkI ops ps n T i o := by
 unfold okI at h
 rw [ho] at h
 dsimp only at h
 rw [Bool.and_eq_true, Bool.and_eq_true, Bool.and_eq_true] at h
 obtain ⟨h1, h2, h3, h4⟩ := h
 refine ⟨fun e he hb => (by have := List.all_eq_true.1 h1 e (Array.mem_toList_iff.2 he); rw [hb] at this; simpa using this), fun e => ?_, fun j b e => ?_, ?_, fun d e => ?_⟩
 ·rw [e] at h2
  simpa using h2
 ·rw [e] at h2
  simp only [Bool.and_eq_true] at h2
  obtain ⟨h5, h6, h7, h8⟩ := h2
  obtain ⟨e', he', h9⟩ := List.any_eq_true.1 h7
  rw [Bool.and_eq_true] at h9
  exact ⟨of_decide_eq_true h5, by simpa using h6, ⟨e', Array.mem_toList_iff.1 he', h9.1, by simpa using h9.2⟩, h8⟩
 ·split at h3
  ·rename_i c x y hop
   obtain ⟨e, he, h5⟩ := List.any_eq_true.1 h3
   simp only [Bool.and_eq_true] at h5
   obtain ⟨h6, h7, h8, h9, h10, h11⟩ := h5
   exact .inr ⟨c, x, y, hop, e, Array.mem_toList_iff.1 he, h6, of_decide_eq_true h7, by simpa using h8, fun p hp => by simpa using List.all_eq_true.1 h9 p hp,
    fun d e => Qt0 (List.all_eq_true.1 h10 d (Qal.2 (by simp [e]))), fun d e => Qt0 (List.all_eq_true.1 h11 d (Qal.2 (by simp [e])))⟩
  ·exact .inl (fun d hd => Qt0 (List.all_eq_true.1 h3 d hd))
 ·rw [e] at h4
  simp only [Bool.and_eq_true] at h4
  refine ⟨of_decide_eq_true h4.1, fun j hj hji => ?_⟩
  have h6 := List.all_eq_true.1 h4.2 j (List.mem_range.2 hj)
  rw [Bool.or_eq_true] at h6
  rcases h6 with h6 | h6
  ·exact absurd (by simpa using h6) hji
  ·simpa using h6
end
section
variable {P : Program} {A : Type} {E : Eng P A} {T n : Nat} {w0 w1 w : World} {a1 a : Act} {σ : Nat → A} {ops : Array Oper} {ps : List (List (Nat × Bool))} {Q : Exit → Act → World → Prop} {L : Nat → Bool} {i : Nat} {o : Oper}
theorem Qlp {τ : Nat → A} {l : List (Nat × Bool)} : E.hold ops τ l = true ↔ ∀ p ∈ l, E.bv (τ ((Qbe ops p.1).getD 0)) = p.2 := by
 unfold Eng.hold
 rw [List.all_eq_true]
 exact ⟨fun h p hp => by simpa using h p hp, fun h p hp => by simpa using h p hp⟩
theorem Qqg (hn : n ≤ ops.size) {d : Nat} (h : ∀ j, i ≤ j → j < n → Qbe ops j ≠ some d) : E.goT (ops.toList.take n) σ d = E.goT ((ops.toList.take n).take i) σ d := by
 have e := Qnb (E := E) ((ops.toList.take n).take i) ((ops.toList.take n).drop i) σ
 rw [List.take_append_drop] at e
 rw [e]
 refine Qna _ _ (fun o ho hd => ?_)
 obtain ⟨k, hk⟩ := List.getElem?_of_mem ho
 rw [List.getElem?_drop] at hk
 have hkn : i + k < n := by
  have := (List.getElem?_eq_some_iff.1 hk).1
  rw [List.length_take] at this
  omega
 rw [List.getElem?_take_of_lt hkn, Array.getElem?_toList] at hk
 exact h (i + k) oW hkn (by rw [Qfi hk, hd])
theorem Qwf (hn : n ≤ ops.size) {d : Nat} (h : ∀ j, j < i → j < n → Qbe ops j ≠ some d) : E.goT ((ops.toList.take n).take i) σ d = σ d := by
 refine Qna _ _ (fun o ho hd => ?_)
 obtain ⟨k, hk⟩ := List.getElem?_of_mem ho
 have hki : k < i ∧ k < n := by
  have := (List.getElem?_eq_some_iff.1 hk).1
  rw [List.length_take, List.length_take] at this
  omega
 rw [List.getElem?_take_of_lt hki.1, List.getElem?_take_of_lt hki.2, Array.getElem?_toList] at hk
 exact h k hki.1 hki.2 (by rw [Qfi hk, hd])
theorem Eng.Mid.opnd (hn : n ≤ ops.size) (hok : ∀ i o, i < n → ops[i]? = some o → OkI ops ps n T i o) (h1 : E.Ga T w0 σ a1 w1) (hM : E.Mid T ops ps n (E.goT (ops.toList.take n) σ) a1 w1 L a w) (hLi : i < n → L i = false)
  (ho : ops[i]? = some o) (hb : ∀ e ∈ o.after, Region.binds .any e = true → e.on < i) (he : ∀ e ∈ o.after, Region.binds .any e = true → L e.on = true) {x : List (Nat × Bool)} {d : Nat} (hr : Rd ops ps n i o x d) (hh : ∀ p ∈ x ++ ps.getD i [], E.bv (E.goT (ops.toList.take n) σ ((Qbe ops p.1).getD 0)) = p.2) (hi : i ≤ n) :
  E.Is w1.heap.size w (E.goT ((ops.toList.take n).take i) σ d) (a.eval (.tmp d)) := by
 rcases hr with hr | ⟨e, h2, h3, h4, h5, h6⟩
 ·have later : ∀ j, j < n → Qbe ops j = some d → i < j ∧ (i < n → L j = false) := fun j hj hd => by
   obtain ⟨q, e, hq, h2, h3, h4⟩ := hr j hj hd
   have h5 := (hok j q hj hq).back e h2 h3
   refine ⟨oW, fun hin => ?_⟩
   cases hL : L j
   ·rfl
   ·have := hM.cl j q hj hL hq e h2 h3
    rw [h4, hLi hin] at this
    cases this
  rw [Qwf hn (fun j hji hj hd => by have := (later j hj hd).1; omega), hM.rest d (fun j hj hL hd => by
   have := later j hj hd
   by_cases hin : i < n
   ·rw [this.2 hin] at hL; cases hL
   ·omega)]
  exact E.chg (h1.nw d) (E.mono (h1.is d) hM.low)
 ·have hlt := hb e h2 h3
  obtain ⟨oe, hoe⟩ : ∃ oe, ops[e.on]? = some oe := ⟨ops[e.on]'(by omega), Array.getElem?_eq_getElem _⟩
  have hu := ((hok e.on oe h4 hoe).dst d (by rw [← Qfi hoe]; exact h5)).2
  rw [← Qqg hn (fun j hij hj => hu j hj oW)]
  exact (hM.done e.on d h4 (he e h2 h3) h5).1 (Qlp.2 (fun p hp => hh p (h6 p hp)))
theorem Eng.Mid.want (hok : ∀ i o, i < n → ops[i]? = some o → OkI ops ps n T i o) (hM : E.Mid T ops ps n (E.goT (ops.toList.take n) σ) a1 w1 L a w) (hO : OkI ops ps n T i o) (hn : n ≤ ops.size)
  (he : ∀ e ∈ o.after, Region.binds .any e = true → L e.on = true) (hB : ∀ j b, o.guard = some (j, b) → E.isB (E.goT (ops.toList.take n) σ ((Qbe ops j).getD 0)) = true) :
  Region.wanted o (yielded ops a.tmps) = E.hold ops (E.goT (ops.toList.take n) σ) (ps.getD i []) := by
 unfold Region.wanted
 cases hg : o.guard with
 | none => rw [hO.free hg]; rfl
 | some p =>
  obtain ⟨j, b⟩ := p
  obtain ⟨hj, hp, ⟨e, h2, h3, h4⟩, h5⟩ := hO.grd j b hg
  have hb := hB j b hg
  obtain ⟨d, hd⟩ := Option.isSome_iff_exists.1 h5
  rw [hd] at hb
  obtain ⟨oj, hoj⟩ : ∃ oj, ops[j]? = some oj := ⟨ops[j]'(by omega), Array.getElem?_eq_getElem _⟩
  have hdT := ((hok j oj hj hoj).dst d (by rw [← Qfi hoj]; exact hd)).1
  have hL : L j = true := by rw [← h4]; exact he e h2 h3
  obtain ⟨k1, k2⟩ := hM.done j d hj hL hd
  have hev : a.tmps[d]? = some (a.eval (.tmp d)) := by
   have hlt : d < a.tmps.size := by rw [hM.sz]; exact hdT
   rw [Array.getElem?_eq_getElem hlt]
   simp [Act.eval, Array.getD, hlt]
  have hy : yielded ops a.tmps j = if E.hold ops (E.goT (ops.toList.take n) σ) (ps.getD j []) = true then some (E.bv (E.goT (ops.toList.take n) σ d)) else none := by
   have hbd : ((ops[j]?).bind (·.dst)) = some d := hd
   unfold yielded
   rw [hbd, Option.bind_some, hev]
   by_cases hh : E.hold ops (E.goT (ops.toList.take n) σ) (ps.getD j []) = true
   ·rw [if_pos hh, E.bool hb (k1 hh)]
    rfl
   ·rw [if_neg hh, k2 (by simpa using hh)]
    rfl
  dsimp only
  rw [hy, hp]
  unfold Eng.hold
  rw [List.all_cons, hd]
  by_cases hh : (ps.getD j []).all (fun p => E.bv (E.goT (ops.toList.take n) σ ((Qbe ops p.1).getD 0)) == p.2) = true
  ·rw [if_pos hh, hh, Bool.and_true]
   rfl
  ·rw [if_neg hh]
   rw [Bool.not_eq_true] at hh
   rw [hh, Bool.and_false]
   rfl
theorem Eng.Mid.next {τ : Nat → A} (hok : ∀ i o, i < n → ops[i]? = some o → OkI ops ps n T i o) (hM : E.Mid T ops ps n τ a1 w1 L a w) (hi : i < n) (ho : ops[i]? = some o)
  (he : ∀ e ∈ o.after, Region.binds .any e = true → L e.on = true) {v : Value} {w' : World} (hb : Below w.heap.size w w')
  (hv : ∀ d, o.dst = some d → (E.hold ops τ (ps.getD i []) = true → E.Is w1.heap.size w' (τ d) v) ∧ (E.hold ops τ (ps.getD i []) = false → v = undef)) : E.Mid T ops ps n τ a1 w1 (fun j => j == i || L j) (a.put o.dst v) w' := by
 have hO := hok i o hi ho
 have hput : ∀ x, o.dst ≠ some x → (a.put o.dst v).eval (.tmp x) = a.eval (.tmp x) := fun x hx => by
  cases hd : o.dst with
  | none => rfl
  | some d => exact Act.eval_put_ne a d x v (fun e => hx (by rw [hd, e]))
 refine ⟨hM.low.trans (hb.mono hM.low.size), fun j q hj hL hq e h2 h3 => ?_, fun j d hj hL hd => ?_, fun d hd => ?_, by rw [Act.size_put]; exact hM.sz, by rw [Act.defers_put']; exact hM.df⟩
 ·show (e.on == i || L e.on) = true
  by_cases e' : j = i
  ·subst e'
   rw [ho] at hq
   cases hq
   rw [he e h2 h3, Bool.or_true]
  ·have hL' : L j = true := by simpa [e'] using hL
   rw [hM.cl j q hj hL' hq e h2 h3, Bool.or_true]
 ·by_cases e' : j = i
  ·subst e'
   rw [Qfi ho] at hd
   rw [hd, Act.eval_put_same a d v (by rw [hM.sz]; exact (hO.dst d hd).1)]
   exact hv d hd
  ·have hL' : L j = true := by simpa [e'] using hL
   have hne : o.dst ≠ some d := fun e => (hO.dst d e).2 j hj e' hd
   rw [hput d hne]
   obtain ⟨k1, k2⟩ := hM.done j d hj hL' hd
   exact ⟨fun h => E.mono (k1 h) hb, k2⟩
 ·have hne : o.dst ≠ some d := fun e => hd i hi sW (by rw [Qfi ho, e])
  rw [hput d hne]
  exact hM.rest d (fun j hj hL => hd j hj (by show (j == i || L j) = true; rw [hL, Bool.or_true]))
theorem Qqh (ho : ops[i]? = some o) {K : Act → World → Prop} (hw : Region.wanted o (yielded ops a.tmps) = true) (h : o.wp P a w K Q) : wpOp P ops Q i K a w := by
 unfold wpOp
 rw [ho]
 dsimp only
 rw [if_pos hw]
 exact .inl h
theorem QA (ho : ops[i]? = some o) {K : Act → World → Prop} (hw : Region.wanted o (yielded ops a.tmps) = false) (h : K (a.put o.dst undef) w) : wpOp P ops Q i K a w := by
 unfold wpOp
 rw [ho]
 dsimp only
 rw [if_neg (by rw [hw]; decide)]
 exact h
theorem Eng.Mid.step (hn : n ≤ ops.size) (hok : ∀ i o, i < n → ops[i]? = some o → OkI ops ps n T i o) (hC : E.sucT ops (ops.toList.take n) σ = true) (hV : E.vcT ops (E.goT (ops.toList.take n) σ) (ops.toList.take n) ps σ) (h1 : E.Ga T w0 σ a1 w1)
  (hM : E.Mid T ops ps n (E.goT (ops.toList.take n) σ) a1 w1 L a w) (hi : i < n) (ho : ops[i]? = some o) (hLi : L i = false) (he : ∀ e ∈ o.after, Region.binds .any e = true → L e.on = true) :
  wpOp P ops Q i (fun a' w' => E.Mid T ops ps n (E.goT (ops.toList.take n) σ) a1 w1 (fun j => j == i || L j) a' w') a w := by
 have hO := hok i o hi ho
 have hget : (ops.toList.take n)[i]? = some o := by
  rw [List.getElem?_take_of_lt hi, Array.getElem?_toList]
  exact ho
 obtain ⟨av, hav, hto, hB⟩ := Qqe _ σ i o hC hget
 have hG := E.gmono h1.g hM.low
 have hdst : ∀ j d, j < n → j < i → Qbe ops j = some d → E.goT (ops.toList.take n) σ d = E.goT ((ops.toList.take n).take i) σ d := fun j d hj hji hd => by
  obtain ⟨oj, hoj⟩ : ∃ oj, ops[j]? = some oj := ⟨ops[j]'(by omega), Array.getElem?_eq_getElem _⟩
  exact Qqg hn (fun k h2 h3 => ((hok j oj hj hoj).dst d (by rw [← Qfi hoj]; exact hd)).2 k h3 oW)
 have hw := hM.want hok hO hn he (fun j b hg => by
  obtain ⟨hj, -, ⟨e, h2, h3, h4⟩, h5⟩ := hO.grd j b hg
  obtain ⟨d, hd⟩ := Option.isSome_iff_exists.1 h5
  have := hB j b hg
  rw [hd] at this ⊢
  rw [Option.getD_some] at this ⊢
  rw [hdst j d hj (by rw [← h4]; exact hO.back e h2 h3) hd]
  exact this)
 by_cases hh : E.hold ops (E.goT (ops.toList.take n) σ) (ps.getD i []) = true
 ·have hp := Qlp.1 hh
  refine Qqh ho (hw.trans hh) (Oper.wp_mono (fun a' w' h => ?_) (Qz9 (E := E) (N := w1.heap.size) (σ := E.goT ((ops.toList.take n).take i) σ) hG hM.low.size hav (Qy6 _ ps σ i o hV hget hh) ?_))
  ·obtain ⟨v, rfl, hv, hb⟩ := h
   refine hM.next hok hi ho he hb (fun d hd => ⟨fun _ => ?_, fun h => by rw [hh] at h; cases h⟩)
   rw [Qqg hn (i := i + 1) (fun k h2 h3 => (hO.dst d hd).2 k h3 oW), hto d hd]
   exact hv
  ·rcases hO.rd with hr | ⟨c, x, y, hop, e, h2, h3, h4, h5, h6, h7, h8⟩
   ·exact .inl (fun d hd => hM.opnd hn hok h1 (fun _ => hLi) ho hO.back he (hr d hd) (by simpa using hp) oW)
   ·have ec := hdst e.on c h4 (hO.back e h2 h3) h5
    have hc : ∀ b, E.bv (E.goT ((ops.toList.take n).take i) σ c) = b → ∀ p ∈ [(e.on, b)] ++ ps.getD i [], E.bv (E.goT (ops.toList.take n) σ ((Qbe ops p.1).getD 0)) = p.2 := fun b hb p h9 => by
     rcases List.mem_append.1 h9 with h9 | h9
     ·obtain rfl := List.mem_singleton.1 h9
      show E.bv (E.goT (ops.toList.take n) σ ((Qbe ops e.on).getD 0)) = b
      rw [h5, Option.getD_some, ec]
      exact hb
     ·exact hp p h9
    refine .inr ⟨c, x, y, hop, ?_, fun hb d ed => hM.opnd hn hok h1 (fun _ => hLi) ho hO.back he (h7 d ed) (hc true hb) oW, fun hb d ed => hM.opnd hn hok h1 (fun _ => hLi) ho hO.back he (h8 d ed) (hc false hb) oW⟩
    rw [← ec]
    exact (hM.done e.on c h4 (he e h2 h3) h5).1 (Qlp.2 (fun p h9 => hp p (h6 p h9)))
 ·rw [Bool.not_eq_true] at hh
  exact QA ho (hw.trans hh) (hM.next hok hi ho he bW (fun d hd => ⟨fun h => (by rw [hh] at h; cases h), fun _ => rfl⟩))
theorem Eng.Mid.start (hn : n ≤ ops.size) {τ : Nat → A} (h1 : E.Ga T w0 σ a1 w1) {w2 : World} (hb : Below w1.heap.size w1 w2) : E.Mid T ops ps n τ a1 w1 (fun _ => false) a1 w2 :=
 ⟨hb, (fun _ _ _ h => by cases h), (fun _ _ _ h => by cases h), (fun _ _ => rfl), h1.sz, h1.df⟩
theorem Eng.reg_all (hm : P.follows .mixedOrders = true) (hok : okR ops ops.size ops.size T = true) (hC : E.sucT ops ops.toList σ = true) (hV : E.vcT ops (E.goT ops.toList σ) ops.toList (gds ops) σ) {id : Nat} {b : Bool} (h1 : E.Ga T w0 σ a1 w1)
  (fin : ∀ L a w, (∀ j, j < ops.size → L j = true) → E.Mid T ops (gds ops) ops.size (E.goT ops.toList σ) a1 w1 L a w → Q .normal a w) : (Code.region id ops b).wp P Q a1 w1 := by
 have et : ops.toList.take ops.size = ops.toList := List.take_of_length_le sW
 have hO : ∀ i o, i < ops.size → ops[i]? = some o → OkI ops (gds ops) ops.size T i o := fun i o hi ho => Qqf (List.all_eq_true.1 hok i (List.mem_range.2 hi)) ho
 rw [← et] at hC hV fin
 refine Qkt (n := ops.size) (I := E.Mid T ops (gds ops) ops.size (E.goT (ops.toList.take ops.size) σ) a1 w1) hm rfl (fun i o ho => (hO i o (Array.getElem?_eq_some_iff.1 ho).1 ho).back) ?_ (fun L a w => fin L a w) (Eng.Mid.start nW h1 bW) (Eng.Mid.start nW h1 bW.drew)
 intro L i o a w hi ho hLi he hM
 exact hM.step nW hO hC (by rw [et] at hV ⊢; exact hV) h1 hi ho hLi he
def Qy7 (ops : Array Oper) (n : Nat) : Bool := (List.range n).all (fun j => (List.range (n + 1)).any (fun k => match ops[k]? with
 | none => false
 | some o => o.after.toList.any (fun e => e.on == j && Region.binds .any e)))
theorem Eng.reg_last (hm : P.follows .mixedOrders = true) (n : Nat) (hs : ops.size = n + 1) (hok : okR ops n (n + 1) T = true) (hC : E.sucT ops (ops.toList.take n) σ = true) (hV : E.vcT ops (E.goT (ops.toList.take n) σ) (ops.toList.take n) (gds ops) σ)
  {ol : Oper} (hL : ops[n]? = some ol) (hg : ol.guard = none) (hW : Qy7 ops n = true) (hp : ∀ c x y, ol.op ≠ .pick c x y) {id : Nat} {b : Bool} (h1 : E.Ga T w0 σ a1 w1)
  (fin : ∀ L a w, E.Mid T ops (gds ops) n (E.goT (ops.toList.take n) σ) a1 w1 L a w → (∀ j, j < n → L j = true) → (∀ d ∈ Qcs ol.op.operands.toList, E.Is w1.heap.size w (E.goT (ops.toList.take n) σ d) (a.eval (.tmp d))) → ol.wp P a w (fun a' w' => Q .normal a' w') Q) :
  (Code.region id ops b).wp P Q a1 w1 := by
 have hO : ∀ i o, i < n + 1 → ops[i]? = some o → OkI ops (gds ops) n T i o := fun i o hi ho => Qqf (List.all_eq_true.1 hok i (List.mem_range.2 hi)) ho
 have hback : ∀ (i : Nat) (o : Oper), ops[i]? = some o → ∀ e ∈ o.after, Region.binds .any e = true → e.on < i := fun i o ho => (hO i o (by rw [← hs]; exact (Array.getElem?_eq_some_iff.1 ho).1) ho).back
 have hsuc : ∀ j, j < n → ∃ k o e, ops[k]? = some o ∧ k < n + 1 ∧ e ∈ o.after ∧ e.on = j ∧ Region.binds .any e = true := fun j hj => by
  obtain ⟨k, hk, h2⟩ := List.any_eq_true.1 (List.all_eq_true.1 hW j (List.mem_range.2 hj))
  cases ho : ops[k]? with
  | none => rw [ho] at h2; cases h2
  | some o =>
   rw [ho] at h2
   obtain ⟨e, he, h3⟩ := List.any_eq_true.1 h2
   rw [Bool.and_eq_true] at h3
   exact ⟨k, o, e, ho, List.mem_range.1 hk, Array.mem_toList_iff.1 he, by simpa using h3.1, h3.2⟩
 refine Qkt (n := n + 1) (I := fun L a w => (L n = false ∧ E.Mid T ops (gds ops) n (E.goT (ops.toList.take n) σ) a1 w1 L a w) ∨ (L n = true ∧ (∀ j, j < n → L j = true) ∧ Q .normal a w)) hm hs hback ?_ ?_ (.inl ⟨rfl, Eng.Mid.start oW h1 bW⟩) (.inl ⟨rfl, Eng.Mid.start oW h1 bW.drew⟩)
 ·intro L i o a w hi ho hLi he h
  rcases h with ⟨hn, hM⟩ | ⟨hn, hall, -⟩
  ·by_cases e : i = n
   ·subst e
    rw [hL] at ho
    cases ho
    have hl : ∀ m j, j < i → i ≤ j + m → L j = true := by
     intro m
     induction m with
     | zero => intro j h2 h3; omega
     | succ m ih =>
      intro j h2 h3
      obtain ⟨k, o, e, h4, h5, h6, h7, h8⟩ := hsuc j h2
      have h9 := hback k o h4 e h6 h8
      by_cases hk : k = i
      ·subst hk
       rw [hL] at h4
       cases h4
       rw [← h7]
       exact he e h6 h8
      ·have := hM.cl k o oW (ih k oW oW) h4 e h6 h8
       rw [h7] at this
       exact this
    have hl : ∀ j, j < i → L j = true := fun j hj => hl i j hj oW
    have hOn := hO i ol oW hL
    refine Qqh hL (by unfold Region.wanted; rw [hg]) (Oper.wp_mono (fun a' w' h5 => .inr ⟨by simp, fun j hj => by show (j == i || L j) = true; rw [hl j hj, Bool.or_true], h5⟩) (fin L a w hM hl (fun d hd => ?_)))
    rcases hOn.rd with hr | ⟨c, x, y, hop, -⟩
    ·have := hM.opnd (i := i) oW (fun i o hi => hO i o oW) h1 (fun h => by omega) hL hOn.back (fun e he hb => hl e.on (hOn.back e he hb)) (hr d hd) (by rw [hOn.free hg]; intro p hp; simp at hp) nW
     rw [List.take_take, Nat.min_self] at this
     exact this
    ·exact absurd hop (hp _ _ _)
   ·exact wpOp_mono (fun a' w' h5 => .inl ⟨by show (n == i || L n) = false; rw [hn, Bool.or_false]; exact beq_eq_false_iff_ne.2 (fun e' => e e'.symm), h5⟩) (hM.step oW (fun i o hi => hO i o oW) hC hV h1 oW ho hLi he)
  ·by_cases e : i = n
   ·rw [e, hn] at hLi; cases hLi
   ·rw [hall i oW] at hLi; cases hLi
 ·intro L a w hall h
  rcases h with ⟨hn, -⟩ | ⟨-, -, h⟩
  ·rw [hall n oW] at hn; cases hn
  ·exact h
def Qb7 (σ : Nat → A) : List (Nat × A) → Nat → A
 | [] => σ
 | p :: l => fun x => if x = p.1 then p.2 else Qb7 σ l x
theorem Qct : ∀ {ks : List (Nat × A)} {x : Nat}, (∃ p ∈ ks, p.1 = x ∧ Qb7 σ ks x = p.2) ∨ (∀ p ∈ ks, p.1 ≠ x) ∧ Qb7 σ ks x = σ x
 | [], x => .inr ⟨(fun p hp => by cases hp), rfl⟩
 | p :: l, x => by
  by_cases e : x = p.1
  ·exact .inl ⟨p, List.mem_cons_self, e.symm, if_pos e⟩
  ·have h : Qb7 σ (p :: l) x = Qb7 σ l x := if_neg e
   rcases Qct (ks := l) (x := x) with ⟨q, h1, h2, h3⟩ | ⟨h1, h2⟩
   ·exact .inl ⟨q, List.mem_cons_of_mem _ h1, h2, h.trans h3⟩
   ·refine .inr ⟨fun q hq => ?_, h.trans h2⟩
    rcases List.mem_cons.1 hq with rfl | hq
    ·exact fun e' => e e'.symm
    ·exact h1 q hq
def Qt1 (isNo : A → Bool) (ops : Array Oper) (n : Nat) (ks : List (Nat × A)) (σ : Nat → A) : Bool := (List.range n).all (fun j => match Qbe ops j with
 | none => true
 | some x => isNo (σ x) || ks.any (fun p => p.1 == x))
theorem Qqi {isNo : A → Bool} {ks : List (Nat × A)} (h : Qt1 isNo ops n ks σ = true) {j x : Nat} (hj : j < n) (hd : Qbe ops j = some x) (hk : ∀ p ∈ ks, p.1 ≠ x) : isNo (σ x) = true := by
 have := List.all_eq_true.1 h j (List.mem_range.2 hj)
 rw [hd] at this
 dsimp only at this
 rw [Bool.or_eq_true] at this
 rcases this with h | h
 ·exact h
 ·obtain ⟨p, hp, h2⟩ := List.any_eq_true.1 h
  exact absurd (by simpa using h2) (hk p hp)
theorem Eng.reg_keep (ks : List (Nat × A)) (hm : P.follows .mixedOrders = true) (hok : okR ops ops.size ops.size T = true) (hC : E.sucT ops ops.toList σ = true) (hV : E.vcT ops (E.goT ops.toList σ) ops.toList (gds ops) σ)
  (hk : ks.map (fun p => E.goT ops.toList σ p.1) = ks.map (·.2)) (hk2 : ks.all (fun p => E.nw p.2 == false && (List.range ops.size).any (fun j => Qbe ops j == some p.1 && (gds ops).getD j [] == [])) = true) (hσ : Qt1 E.isNo ops ops.size ks σ = true) {id : Nat} {b : Bool}
  (fin : ∀ a w, E.Ga T w0 (Qb7 σ ks) a w → Q .normal a w) : ∀ a w, E.Ga T w0 σ a w → (Code.region id ops b).wp P Q a w := by
 intro a1 w1 h1
 refine Eng.reg_all hm hok hC hV h1 (fun L a w hl hM => fin a w ⟨h1.low.trans (hM.low.mono h1.low.size), E.gmono h1.g hM.low, fun d => ?_, fun d => ?_, hM.sz, hM.df⟩)
 ·rcases Qct (σ := σ) (ks := ks) (x := d) with ⟨p, h2, rfl, h4⟩ | ⟨h2, h3⟩
  ·have h5 := List.all_eq_true.1 hk2 p h2
   rw [Bool.and_eq_true] at h5
   obtain ⟨j, hj, h6⟩ := List.any_eq_true.1 h5.2
   rw [Bool.and_eq_true] at h6
   have hj := List.mem_range.1 hj
   rw [h4, ← List.map_inj_left.1 hk p h2]
   refine E.chg (by rw [List.map_inj_left.1 hk p h2]; simpa using h5.1) ((hM.done j p.1 hj (hl j hj) (by simpa using h6.1)).1 ?_)
   rw [show (gds ops).getD j [] = [] by simpa using h6.2]
   rfl
  ·rw [h3]
   by_cases hw : ∃ j, j < ops.size ∧ Qbe ops j = some d
   ·obtain ⟨j, hj, hd⟩ := hw
    exact E.any (Qqi hσ hj hd h2)
   ·rw [hM.rest d (fun j hj _ hd => hw ⟨j, hj, hd⟩)]
    exact E.mono (h1.is d) hM.low
 ·rcases Qct (σ := σ) (ks := ks) (x := d) with ⟨p, h2, h3, h4⟩ | ⟨h2, h3⟩
  ·have h5 := List.all_eq_true.1 hk2 p h2
   rw [Bool.and_eq_true] at h5
   rw [h4]
   simpa using h5.1
  ·rw [h3]; exact h1.nw d
theorem Eng.reg_ret (r : Nat) (av : A) (hm : P.follows .mixedOrders = true) (hok : okR ops ops.size ops.size T = true) (hC : E.sucT ops ops.toList σ = true) (hV : E.vcT ops (E.goT ops.toList σ) ops.toList (gds ops) σ)
  (hk : E.goT ops.toList σ r = av) (hk2 : (List.range ops.size).any (fun j => Qbe ops j == some r && (gds ops).getD j [] == []) = true) {id : Nat} {b : Bool} {fn : Func} {R : Ending → World → Prop} (hres : fn.results = #[.tmp r])
  (hQ : ∀ a w, bodyPost P fn R .ret a w → Q .normal a w) (fin : ∀ N w v, Below w0.heap.size w0 w → E.G w → E.Is N w av v → R (.returned v) w) : ∀ a w, E.Ga T w0 σ a w → (Code.region id ops b).wp P Q a w := by
 intro a1 w1 h1
 refine Eng.reg_all hm hok hC hV h1 (fun L a w hl hM => hQ a w ⟨hM.df, _, results_tmp hres _ _ _, fin w1.heap.size w _ (h1.low.trans (hM.low.mono h1.low.size)) (E.gmono h1.g hM.low) ?_⟩)
 obtain ⟨j, hj, h6⟩ := List.any_eq_true.1 hk2
 rw [Bool.and_eq_true] at h6
 have hj := List.mem_range.1 hj
 rw [← hk]
 refine (hM.done j r hj (hl j hj) (by simpa using h6.1)).1 ?_
 rw [show (gds ops).getD j [] = [] by simpa using h6.2]
 rfl
end
end Go.Proofs.YtdkogbfamdnheaaGreatDoor
