/- What the loops of the document's own makers keep. -/
import Derived.Test.YteejkhgccaagiaaDoorRefWideO
namespace Go.Proofs.YteejkhgccaagiaaDoor
open Go.RowKit Go.Shelf Sx

structure MkAt (w W : World) (k : Nat) (bs : List (Nat × Array Value)) (B N : Nat) (M : Value) (rb : Nat → Nat) (F : Nat → Nat → Bool) : Prop where
  below : Below w.heap.size w W
  bx : ∀ x ∈ bs, x.1 < k ∧ Blk W (w.heap.size + x.1) 46 x.2
  box : Blk W B 46 #[.int .i64 ((N : Nat) : Int), M]
  ref : RefM (w.heap.size + k) W M N N rb F
  far : ∀ p, p < N → rb p ≠ B
  hB : w.heap.size + k ≤ B
section
variable {w W : World} {k : Nat} {bs : List (Nat × Array Value)} {B N : Nat} {M : Value} {rb : Nat → Nat} {F : Nat → Nat → Bool}
theorem MkAt.put (h : MkAt w W k bs B N M rb F) {p q : Nat} (hp : p < N) (hq : q < N) (b : Bool) : MkAt w (W.setCell ⟨rb p, q, none⟩ (.bool b)) k bs B N M rb (upd F p q b) := by
  have hr := (h.ref.row p hp).1
  exact ⟨h.below.setCell (by simp; omega) _, fun x hx => ⟨(h.bx x hx).1, (h.bx x hx).2.setOther (by have := (h.bx x hx).1; simp; omega) _⟩, h.box.setOther (fun e => h.far p hp e.symm) _, h.ref.put hp hq b, h.far, h.hB⟩
theorem MkAt.step {W' : World} (h : MkAt w W k bs B N M rb F) (hB : Below W.heap.size W W') : MkAt w W' k bs B N M rb F :=
  ⟨below_step h.below h.below.size hB, fun x hx => ⟨(h.bx x hx).1, (h.bx x hx).2.of_below hB⟩, h.box.of_below hB, h.ref.below hB, h.far, h.hB⟩
theorem MkAt.drew (h : MkAt w W k bs B N M rb F) : MkAt w W.drew k bs B N M rb F := h.step (Below.refl _ _).drew
theorem MkAt.congr {G : Nat → Nat → Bool} (h : MkAt w W k bs B N M rb F) (hfg : ∀ p q, p < N → q < N → F p q = G p q) : MkAt w W k bs B N M rb G :=
  ⟨h.below, h.bx, h.box, h.ref.congr hfg, h.far, h.hB⟩
theorem MkAt.fst {i : Nat} {A : Array Value} {l : List (Nat × Array Value)} (h : MkAt w W k ((i, A) :: l) B N M rb F) : Blk W (w.heap.size + i) 46 A := (h.bx (i, A) (by simp)).2
theorem MkAt.snd {x : Nat × Array Value} {i : Nat} {A : Array Value} {l : List (Nat × Array Value)} (h : MkAt w W k (x :: (i, A) :: l) B N M rb F) : Blk W (w.heap.size + i) 46 A := (h.bx (i, A) (by simp)).2
theorem MkAt.trd {x y : Nat × Array Value} {i : Nat} {A : Array Value} {l : List (Nat × Array Value)} (h : MkAt w W k (x :: y :: (i, A) :: l) B N M rb F) : Blk W (w.heap.size + i) 46 A := (h.bx (i, A) (by simp)).2
/-- Behind the making: the first maker's answer is put into a box of its own. -/
theorem MkAt.begin {w0 w1 : World} (h0 : Below w.heap.size w w0) (hs : w0.heap.size = w.heap.size + k) (hbs : ∀ x ∈ bs, x.1 < k ∧ Blk w0 (w.heap.size + x.1) 46 x.2)
    (hR : RefM w0.heap.size w1 M N N rb F) (hB : Below w0.heap.size w0 w1) : MkAt w (w1.alloc (.cells #[.int .i64 ((N : Nat) : Int), M] 46)) k bs w1.heap.size N M rb F := by
  have hle := hB.size
  have h1 : Below w.heap.size w w1 := h0.trans (hB.mono (by omega))
  refine ⟨h1.alloc h1.size _, fun x hx => ⟨(hbs x hx).1, ((hbs x hx).2.of_below hB).alloc _⟩, Blk.new _ _ _, ?_, fun p hp => ?_, by omega⟩
  · rw [← hs]
    exact hR.alloc _
  · have := (hR.row p hp).2.lt
    omega
/-- What is answered. -/
theorem MkAt.answer (h : MkAt w W k bs B N M rb F) {r : Nat} (hr : r < k) :
    RefM w.heap.size ((W.setCell ⟨w.heap.size + r, 0, none⟩ (.int .i64 ((N : Nat) : Int))).setCell ⟨w.heap.size + r, 1, none⟩ M) M N N rb F ∧ Below w.heap.size w ((W.setCell ⟨w.heap.size + r, 0, none⟩ (.int .i64 ((N : Nat) : Int))).setCell ⟨w.heap.size + r, 1, none⟩ M) := by
  refine ⟨RefM.mono (h.ref.below' fun g hg _ => ?_) (by omega), (h.below.setCell (by simp) _).setCell (by simp) _⟩
  rw [Below.heap_setCell _ _ _ _ (by simp; omega), Below.heap_setCell _ _ _ _ (by simp; omega)]
end

/-! Walking a region by hand where what is read stays as S says. -/
section
variable {P : Program} {ops : Array Oper} {md : Region.Mode} {Q : Exit → Act → World → Prop} {S : World → Prop}
theorem anyS_take {i : Nat} {oi : Oper} {d : Option Tmp} {v : Value} {fuel : Nat} {listed : Array Bool} {a : Act} {w : World} (hS : S w) (hi : ops[i]? = some oi) (hd : oi.dst = d)
    (hs : Region.noSelect ops = true) (hf : Region.free md ops listed i = true) (hr : (Region.ready md ops listed).contains i = true)
    (hQ : ∀ c a w, Q (.panic c) (a.put d v) w → Q (.panic c) a w) (hw : Region.wanted oi (yielded ops a.tmps) = true) (hy : ∀ w, S w → (execOp a.eval oi).run P w = .ok (.value v) w)
    (h : wpAnyH P md ops Q S fuel (listed.setIfInBounds i true) (a.put d v) w) : wpAnyH P md ops Q S (fuel + 1) listed a w := by
  subst hd
  exact wpAnyH_take hi hs hf hr hQ (Or.inl ⟨hw, fun w => hy w⟩) hS h
theorem wanted_off {o : Oper} {tmps : Array Value} {j d : Nat} {want : Bool} (hg : o.guard = some (j, want)) (hd : (ops[j]?).bind (·.dst) = some d) (ht : tmps[d]? = some (.bool (!want))) : Region.wanted o (yielded ops tmps) = false := by
  cases want <;> simp [Region.wanted, hg, yielded, hd, ht]
theorem anyS_off {i : Nat} {oi : Oper} {d : Option Tmp} {fuel : Nat} {listed : Array Bool} {a : Act} {w : World} (hS : S w) (hi : ops[i]? = some oi) (hd : oi.dst = d)
    (hs : Region.noSelect ops = true) (hf : Region.free md ops listed i = true) (hr : (Region.ready md ops listed).contains i = true)
    (hQ : ∀ c a w, Q (.panic c) (a.put d undef) w → Q (.panic c) a w) (hw : Region.wanted oi (yielded ops a.tmps) = false)
    (h : wpAnyH P md ops Q S fuel (listed.setIfInBounds i true) (a.put d undef) w) : wpAnyH P md ops Q S (fuel + 1) listed a w := by
  subst hd
  exact wpAnyH_take hi hs hf hr hQ (Or.inr ⟨hw, rfl⟩) hS h
theorem anyS_value {i : Nat} {o : Oper} {d : Option Tmp} {v : Value} {fuel : Nat} {listed : Array Bool} {a : Act} {w w' : World} {rs : List Nat} (ho : ops[i]? = some o) (hd : o.dst = d)
    (hw : Region.wanted o (yielded ops a.tmps) = true) (hrun : (execOp a.eval o).run P w = .ok (.value v) w') (hS : S w')
    (h : wpAnyH P md ops Q S fuel (listed.setIfInBounds i true) (a.put d v) w') (hs : AllReadyH P md ops Q S fuel listed a w rs) : AllReadyH P md ops Q S fuel listed a w (i :: rs) := by
  subst hd
  refine AllReadyH.cons ho (fun K hK => ?_) hs
  rw [if_pos hw]
  unfold Oper.wp
  rw [hrun]
  exact hK.out _ _ hS (fun _ => h)
theorem anyS_skip {i : Nat} {o : Oper} {d : Option Tmp} {fuel : Nat} {listed : Array Bool} {a : Act} {w w' : World} {rs : List Nat} (ho : ops[i]? = some o) (hd : o.dst = d)
    (hw : Region.wanted o (yielded ops a.tmps) = true) (hrun : (execOp a.eval o).run P w = .ok .skip w') (hS : S w')
    (h : wpAnyH P md ops Q S fuel (listed.setIfInBounds i true) (a.put d undef) w') (hs : AllReadyH P md ops Q S fuel listed a w rs) : AllReadyH P md ops Q S fuel listed a w (i :: rs) := by
  subst hd
  refine AllReadyH.cons ho (fun K hK => ?_) hs
  rw [if_pos hw]
  unfold Oper.wp
  rw [hrun]
  exact hK.out _ _ hS (fun _ => h)
theorem anyS_pass {i : Nat} {o : Oper} {d : Option Tmp} {fuel : Nat} {listed : Array Bool} {a : Act} {w : World} {rs : List Nat} (ho : ops[i]? = some o) (hd : o.dst = d)
    (hw : Region.wanted o (yielded ops a.tmps) = false) (hS : S w)
    (h : wpAnyH P md ops Q S fuel (listed.setIfInBounds i true) (a.put d undef) w) (hs : AllReadyH P md ops Q S fuel listed a w rs) : AllReadyH P md ops Q S fuel listed a w (i :: rs) := by
  subst hd
  refine AllReadyH.cons ho (fun K hK => ?_) hs
  rw [if_neg (by rw [hw]; simp)]
  exact hK.out _ _ hS (fun _ => h)
theorem anyS_enter {i : Nat} {o : Oper} {d : Option Tmp} {f : FuncId} {args : Array Value} {fuel : Nat} {listed : Array Bool} {a : Act} {w w' : World} {rs : List Nat} (ho : ops[i]? = some o) (hd : o.dst = d)
    (hw : Region.wanted o (yielded ops a.tmps) = true) (hrun : (execOp a.eval o).run P w = .ok (.enter f args) w')
    (h : Calls P f args w' fun e w1 => ∃ v, e = .returned v ∧ S w1 ∧ wpAnyH P md ops Q S fuel (listed.setIfInBounds i true) (a.put d v) w1) (hs : AllReadyH P md ops Q S fuel listed a w rs) :
    AllReadyH P md ops Q S fuel listed a w (i :: rs) := by
  subst hd
  refine AllReadyH.cons ho (fun K hK => ?_) hs
  rw [if_pos hw]
  unfold Oper.wp
  rw [hrun]
  refine h.mono ?_
  rintro e w1 ⟨v, rfl, hS, h1⟩
  exact hK.out _ _ hS (fun _ => h1)
end
end Go.Proofs.YteejkhgccaagiaaDoor
