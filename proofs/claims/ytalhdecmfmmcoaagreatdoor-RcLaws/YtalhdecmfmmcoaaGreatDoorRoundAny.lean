/- A region without defer statements that is shown, order by order, outside of rounds serves in a round of the wide fence too. -/
import Derived.OrdersIn
import Derived.OrdersHeld
import Derived.Deep.RegionHeld
import Derived.RangeFuncCalls
import Derived.TacticsIn
import Derived.Great.Frames
namespace Go.Proofs.YtalhdecmfmmcoaaGreatDoor

/-- The post that lets nothing but the normal end pass. -/
def Norm (K : Act → World → Prop) : Exit → Act → World → Prop
  | .normal, a, w => K a w
  | _, _, _ => False

theorem norm_intro {K : Act → World → Prop} {a : Act} {w : World} (h : K a w) : Norm K .normal a w := h
theorem not_letsOut_norm {K : Act → World → Prop} : ¬ LetsOut (Norm K) := fun ⟨_, _, h⟩ => h

def calmOp (o : Oper) : Bool := match o.op with
  | .defer _ => false
  | _ => true

theorem calmOp_spec {o : Oper} (h : calmOp o = true) : ∀ c, o.op ≠ .defer c := by
  intro c hc
  unfold calmOp at h
  rw [hc] at h
  cases h

section
variable {P : Program} {ops : Array Oper} {md : Region.Mode} {K : Act → World → Prop} {n l : Nat}

theorem wpOpIn_of_wpOp {i : Nat} {K1 K2 : Act → World → Prop} {a : Act} {w : World} (hn : ∀ (j : Nat) (o : Oper), ops[j]? = some o → calmOp o = true) (hk : ∀ a w, K1 a w → K2 a w)
    (h : wpOp P ops (Norm K) i K1 a w) : wpOpIn (Fence.wide.inRound l) n P ops (Norm K) i K2 a w := by
  unfold wpOp at h
  unfold wpOpIn
  cases ho : ops[i]? with
  | none => simp only [ho] at h ⊢; exact hk _ _ h
  | some o =>
    simp only [ho] at h ⊢
    split
    · rename_i hw
      simp only [hw, if_true] at h
      rcases h with h | ⟨_, h⟩
      · refine ⟨fun _ _ => trivial, ?_⟩
        rw [Oper.semAt_eq _ _ _ (calmOp_spec (hn i o ho))]
        unfold Oper.wp at h
        generalize (execOp a.eval o).run P w = r at *
        cases r with
        | ok x w' =>
          cases x <;> simp only [Oper.upon] at h <;> simp only [Oper.uponIn]
          case value u => exact hk _ _ h
          case skip => exact hk _ _ h
          case defer d => exact hk _ _ h
          case enter f args =>
            refine ⟨(fun hd => by cases hd), CallsIn.inRound l (callsIn_wide.2 (h.mono fun e w'' he => ?_))⟩
            cases e with
            | returned u => exact hk _ _ he
            | panicked c => exact he
            | outgrown => exact (not_letsOut_norm he).elim
          case row row args => exact ⟨(fun hd => by cases hd), fun c cs _ => let ⟨v, w1, r, s⟩ := h c cs; ⟨v, w1, hk _ _ r, stepsIn_wide.2 s⟩⟩
        | halt x w' => cases x <;> simp only [Oper.upon] at h <;> simp only [Oper.uponIn] <;> exact h
      · exact (not_letsOut_norm h).elim
    · rename_i hw
      simp only [hw] at h
      exact ⟨fun _ _ => trivial, hk _ _ h⟩

theorem wpAnyIn_of_held (S : World → Prop) (hn : ∀ (j : Nat) (o : Oper), ops[j]? = some o → calmOp o = true) : ∀ (fuel : Nat) (listed : Array Bool) (a : Act) (w : World),
    wpAnyH P md ops (Norm K) S fuel listed a w → wpAnyIn (Fence.wide.inRound l) n P md ops (Norm K) fuel listed a w
  | 0, _, _, _, h => h
  | fuel + 1, _, _, _, h => ⟨h.1, fun i hi => wpOpIn_of_wpOp hn (fun a' w' h' => wpAnyIn_of_held S hn fuel _ a' w' h'.2) (h.2 i hi)⟩

theorem calm_all (h : ops.toList.all calmOp = true) : ∀ (j : Nat) (o : Oper), ops[j]? = some o → calmOp o = true := by
  intro j o hj
  rw [List.all_eq_true] at h
  exact h o (by rw [Array.mem_toList_iff]; exact Array.mem_of_getElem? hj)

theorem wpIn_region_round {id : Nat} {a : Act} {w : World} {Q : Exit → Act → World → Prop} (S : World → Prop) (hm : P.follows .mixedOrders = true) (hn : ops.toList.all calmOp = true) (hS : S w.drew)
    (h : S w.drew → wpAnyH P .any ops (Norm fun a w => Q .normal a w) S ops.size (Array.replicate ops.size false) a w.drew) : (Code.region id ops true).wpIn (Fence.wide.inRound l) n P Q a w :=
  Code.wpIn_mono (fun e a w hq => by cases e <;> first | exact hq | exact hq.elim) (wpIn_region_any hm (wpAnyIn_of_held S (calm_all hn) _ _ _ _ (h hS)))
end

/-! Walking a region by hand, the frame a variable. -/
section
variable {P : Program} {ops : Array Oper} {md : Region.Mode} {Q : Exit → Act → World → Prop}

theorem wanted_guard {o : Oper} {tmps : Array Value} {j d : Nat} {want : Bool} (hg : o.guard = some (j, want)) (hd : (ops[j]?).bind (·.dst) = some d) (ht : tmps[d]? = some (.bool want)) : Region.wanted o (yielded ops tmps) = true := by
  simp [Region.wanted, hg, yielded, hd, ht]
theorem tmp_put_same (a : Act) (d : Nat) (v : Value) (h : d < a.tmps.size) : (a.put (some d) v).tmps[d]? = some v := by
  simp [Act.put, h]
theorem tmp_put_ne (a : Act) (d j : Nat) (v : Value) (h : d ≠ j) : (a.put (some d) v).tmps[j]? = a.tmps[j]? := by
  simp [Act.put, Array.getElem?_setIfInBounds_ne h]

theorem any_take {i : Nat} {oi : Oper} {d : Option Tmp} {v : Value} {fuel : Nat} {listed : Array Bool} {a : Act} {w : World} (hi : ops[i]? = some oi) (hd : oi.dst = d)
    (hs : Region.noSelect ops = true) (hf : Region.free md ops listed i = true) (hr : (Region.ready md ops listed).contains i = true)
    (hQ : ∀ c a w, Q (.panic c) (a.put d v) w → Q (.panic c) a w) (hw : Region.wanted oi (yielded ops a.tmps) = true) (hy : ∀ w, (execOp a.eval oi).run P w = .ok (.value v) w)
    (h : wpAnyH P md ops Q (fun _ => True) fuel (listed.setIfInBounds i true) (a.put d v) w) : wpAnyH P md ops Q (fun _ => True) (fuel + 1) listed a w := by
  subst hd
  exact wpAnyH_take hi hs hf hr hQ (Or.inl ⟨hw, fun w _ => hy w⟩) trivial h

theorem any_value {i : Nat} {o : Oper} {d : Option Tmp} {v : Value} {fuel : Nat} {listed : Array Bool} {a : Act} {w w' : World} {rs : List Nat} (ho : ops[i]? = some o) (hd : o.dst = d)
    (hw : Region.wanted o (yielded ops a.tmps) = true) (hrun : (execOp a.eval o).run P w = .ok (.value v) w')
    (h : wpAnyH P md ops Q (fun _ => True) fuel (listed.setIfInBounds i true) (a.put d v) w') (hs : AllReadyH P md ops Q (fun _ => True) fuel listed a w rs) :
    AllReadyH P md ops Q (fun _ => True) fuel listed a w (i :: rs) := by
  subst hd
  refine AllReadyH.cons ho (fun K hK => ?_) hs
  rw [if_pos hw]
  unfold Oper.wp
  rw [hrun]
  exact hK.out _ _ trivial (fun _ => h)

theorem any_enter {i : Nat} {o : Oper} {d : Option Tmp} {f : FuncId} {args : Array Value} {fuel : Nat} {listed : Array Bool} {a : Act} {w w' : World} {rs : List Nat} (ho : ops[i]? = some o) (hd : o.dst = d)
    (hw : Region.wanted o (yielded ops a.tmps) = true) (hrun : (execOp a.eval o).run P w = .ok (.enter f args) w')
    (h : Calls P f args w' fun e w1 => ∃ v, e = .returned v ∧ wpAnyH P md ops Q (fun _ => True) fuel (listed.setIfInBounds i true) (a.put d v) w1) (hs : AllReadyH P md ops Q (fun _ => True) fuel listed a w rs) :
    AllReadyH P md ops Q (fun _ => True) fuel listed a w (i :: rs) := by
  subst hd
  refine AllReadyH.cons ho (fun K hK => ?_) hs
  rw [if_pos hw]
  unfold Oper.wp
  rw [hrun]
  refine h.mono ?_
  rintro e w1 ⟨v, rfl, h1⟩
  exact hK.out _ _ trivial (fun _ => h1)
end
end Go.Proofs.YtalhdecmfmmcoaaGreatDoor
