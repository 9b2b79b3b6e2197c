import Derived.Test.YtdkogbfamdnheaaGreatDoorW0
import Derived.WalkSpells
import Derived.BigQuiet
import Derived.RangeFuncNested
namespace Go.Proofs.YtdkogbfamdnheaaGreatDoor
open Go.RowKit
set_option maxRecDepth 100000
set_option maxHeartbeats 16000000
set_option linter.unusedSimpArgs false
set_option linter.unusedVariables false
def Blk (w : World) (b : Nat) (t : TypeId) (cs : Array Value) : Prop := w.heap[b]? = some (.cells cs t (0, 0))
theorem Blk.lt {w : World} {b : Nat} {t : TypeId} {cs : Array Value} (h : Blk w b t cs) : b < w.heap.size := (Array.getElem?_eq_some_iff.1 h).1
theorem Blk.cell {w : World} {b : Nat} {t : TypeId} {cs : Array Value} (h : Blk w b t cs) {j : Nat} {v : Value} (hj : cs[j]? = some v) : w.cell? ⟨b, j, none⟩ = some v := by
 simp [World.cell?, show w.heap[b]? = _ from h, hj]
theorem Blk.frozen {w : World} {b : Nat} {t : TypeId} {cs : Array Value} (h : Blk w b t cs) (j : Nat) : w.frozen? ⟨b, j, none⟩ = false := by
 simp [World.frozen?, show w.heap[b]? = _ from h]
theorem Blk.new (w : World) (t : TypeId) (cs : Array Value) : Blk (w.alloc (.cells cs t)) w.heap.size t cs := World.alloc_heap_new w _
theorem Blk.alloc {w : World} {b : Nat} {t : TypeId} {cs : Array Value} (h : Blk w b t cs) (o : Obj) : Blk (w.alloc o) b t cs := (Below.heap_alloc w o b h.lt).trans h
theorem Blk.drew {w : World} {b : Nat} {t : TypeId} {cs : Array Value} (h : Blk w b t cs) : Blk w.drew b t cs := h
theorem Blk.setOther {w : World} {b : Nat} {t : TypeId} {cs : Array Value} (h : Blk w b t cs) {a : Addr} (ha : b ≠ a.block) (v : Value) : Blk (w.setCell a v) b t cs :=
 (Below.heap_setCell w a v b ha).trans h
theorem Blk.set {w : World} {b : Nat} {t : TypeId} {cs : Array Value} (h : Blk w b t cs) (j : Nat) (v : Value) : Blk (w.setCell ⟨b, j, none⟩ v) b t (cs.setIfInBounds j v) := by
 have hb := h.lt
 unfold Blk at h ⊢
 simp only [World.setCell, Array.getElem?_modify, if_true, h, Option.map_some, Option.isSome_none, Bool.false_eq_true, if_false]
theorem Blk.below {w w' : World} {n b : Nat} {t : TypeId} {cs : Array Value} (h : Blk w b t cs) (hb : Below n w w') (hn : b < n) : Blk w' b t cs := (hb.block b hn).trans h
theorem Blk.of_below {w w' : World} {b : Nat} {t : TypeId} {cs : Array Value} (h : Blk w b t cs) (hb : Below w.heap.size w w') : Blk w' b t cs := h.below hb h.lt
theorem Qab {n : Nat} {a w : World} (h : Below n a w) (k : Nat) : Below n a (w.drewN k) := ⟨h.os, h.tape, h.output, h.size, h.block⟩
theorem Qaa {n : Nat} {a w w' : World} (h : Below n a w) (hn : n ≤ w.heap.size) (k : Below w.heap.size w w') : Below n a w' := h.trans (k.mono hn)
theorem Qfh {w w' : World} (h : Below w.heap.size w w') : KeepsOthers w w' := ⟨h.size, fun k _ hk _ => (h.block k (Array.getElem?_eq_some_iff.1 hk).1).trans hk⟩
end Go.Proofs.YtdkogbfamdnheaaGreatDoor
namespace Go.Proofs.YtdkogbfamdnheaaGreatDoor
open Go
set_option maxRecDepth 100000
set_option maxHeartbeats 16000000
set_option linter.unusedSimpArgs false
set_option linter.unusedVariables false
theorem byK {p : Prop} (h : p := by as_aux_lemma => kernel_rfl) : p := h
theorem byT {p : Prop} (h : True = p := by as_aux_lemma => kernel_rfl) : p := h ▸ trivial
section
variable {P : Program} {ops : Array Oper} {Q : Exit → Act → World → Prop}
theorem Qqd {p p' : Nat → Bool} {i : Nat} (hp : p i = true) (hp' : p' i = false) (he : ∀ j, j ≠ i → p' j = p j) : ∀ l : List Nat, l.Nodup → i ∈ l → (l.filter p).length = (l.filter p').length + 1
 | [], _, h => by cases h
 | x :: l, hd, h => by
  have hd2 := List.nodup_cons.1 hd
  by_cases e : x = i
  ·subst e
   rw [List.filter_cons_of_pos hp, List.filter_cons_of_neg (by rw [hp']; decide), List.length_cons]
   congr 2
   exact List.filter_congr (fun y hy => (he y (fun e => hd2.1 (e ▸ hy))).symm)
  ·have hi : i ∈ l := by
    rcases List.mem_cons.1 h with h | h
    ·exact absurd h.symm e
    ·exact h
   have ih := Qqd hp hp' he l hd2.2 hi
   cases hx : p x
   ·rw [List.filter_cons_of_neg (by rw [hx]; decide), List.filter_cons_of_neg (by rw [he x e, hx]; decide)]
    exact ih
   ·rw [List.filter_cons_of_pos hx, List.filter_cons_of_pos (by rw [he x e, hx]), List.length_cons, List.length_cons, ih]
theorem Qob {p : Nat → Bool} : ∀ m, (∃ j, j < m ∧ p j = true) → ∃ i, i < m ∧ p i = true ∧ ∀ j, j < i → p j = false
 | 0, h => by obtain ⟨j, h, _⟩ := h; omega
 | m + 1, h => by
  by_cases h2 : ∃ j, j < m ∧ p j = true
  ·obtain ⟨i, h3, h4⟩ := Qob m h2
   exact ⟨i, oW, h4⟩
  ·obtain ⟨j, hj, hp⟩ := h
   have e : j = m := by
    by_cases hj2 : j < m
    ·exact absurd ⟨j, hj2, hp⟩ h2
    ·omega
   subst e
   refine ⟨j, hj, hp, fun k hk => ?_⟩
   cases hx : p k
   ·rfl
   ·exact absurd ⟨k, hk, hx⟩ h2
variable {n : Nat} {I : (Nat → Bool) → Act → World → Prop}
theorem Qz7 (hs0 : ops.size = n) (hb : ∀ (i : Nat) (o : Oper), ops[i]? = some o → ∀ e ∈ o.after, Region.binds .any e = true → e.on < i)
  (step : ∀ L i o a w, i < n → ops[i]? = some o → L i = false → (∀ e ∈ o.after, Region.binds .any e = true → L e.on = true) → I L a w → wpOp P ops Q i (fun a' w' => I (fun j => j == i || L j) a' w') a w)
  (fin : ∀ L a w, (∀ j, j < n → L j = true) → I L a w → Q .normal a w) :
  ∀ (fuel : Nat) (listed : Array Bool) (a : Act) (w : World), listed.size = n → ((List.range n).filter (fun j => !listed.getD j true)).length = fuel → I (fun j => listed.getD j false) a w → wpAny P .any ops Q fuel listed a w := by
 have hgd : ∀ (listed : Array Bool) (j : Nat), listed.size = n → j < n → listed.getD j true = listed.getD j false := fun listed j hs hj => by
  simp [Array.getD, hs, hj]
 have hall : ∀ (listed : Array Bool), listed.size = n → ((List.range n).filter (fun j => !listed.getD j true)) = [] → ∀ j, j < n → listed.getD j true = true := fun listed hs h1 j hj => by
  rw [List.filter_eq_nil_iff] at h1
  have := h1 j (List.mem_range.2 hj)
  simpa using this
 have hrd : ∀ (listed : Array Bool), (∀ j, j < n → listed.getD j true = true) → Region.ready .any ops listed = [] := fun listed h => by
  refine List.eq_nil_iff_forall_not_mem.2 (fun j hj => ?_)
  obtain ⟨h3, o, h4, _⟩ := mem_ready.1 hj
  have h5 := (Array.getElem?_eq_some_iff.1 h4).1
  rw [h j (by rw [← hs0]; exact h5)] at h3
  cases h3
 intro fuel
 induction fuel with
 | zero =>
  intro listed a w hs hU h
  have h1 := hall listed hs (List.length_eq_zero_iff.1 hU)
  exact ⟨hrd listed h1, fin _ a w (fun j hj => by rw [← hgd listed j hs hj]; exact h1 j hj) h⟩
 | succ fuel ih =>
  intro listed a w hs hU h
  have hex : ∃ j, j < n ∧ (!listed.getD j true) = true := by
   cases hl : (List.range n).filter (fun j => !listed.getD j true) with
   | nil => rw [hl] at hU; cases hU
   | cons x l =>
    have hx : x ∈ (List.range n).filter (fun j => !listed.getD j true) := by rw [hl]; exact List.mem_cons_self
    have := List.mem_filter.1 hx
    exact ⟨x, List.mem_range.1 this.1, this.2⟩
  refine ⟨fun h0 => ?_, fun i hi => ?_⟩
  ·exfalso
   obtain ⟨i, h1, h2, h3⟩ := Qob (p := fun j => !listed.getD j true) n hex
   have hlt : i < ops.size := by rw [hs0]; exact h1
   have hm : i ∈ Region.ready .any ops listed := mem_ready.2 ⟨by simpa using h2, ops[i], Array.getElem?_eq_getElem hlt, fun e he hbi => by
    have h4 := hb i ops[i] (Array.getElem?_eq_getElem hlt) e he hbi
    have h5 : listed.getD e.on true = true := by simpa using h3 e.on h4
    rw [← hgd listed e.on hs oW]
    exact h5⟩
   rw [h0] at hm
   cases hm
  ·obtain ⟨h3, o, ho, h4⟩ := mem_ready.1 hi
   have hin : i < n := by rw [← hs0]; exact (Array.getElem?_eq_some_iff.1 ho).1
   have h3' : listed.getD i false = false := by rw [← hgd listed i hs hin]; exact h3
   have hset : ∀ j d, (listed.setIfInBounds i true).getD j d = if j = i then true else listed.getD j d := fun j d => by
    by_cases e : j = i
    ·subst e
     rw [if_pos rfl]
     simp [Array.getD, hs, hin]
    ·rw [if_neg e, getD_set_ne d (Ne.symm e)]
   have hU2 : ((List.range n).filter (fun j => !(listed.setIfInBounds i true).getD j true)).length = fuel := by
    have := Qqd (p := fun j => !listed.getD j true) (p' := fun j => !(listed.setIfInBounds i true).getD j true) (i := i) (by show (!listed.getD i true) = true; rw [h3]; rfl) (by show (!(listed.setIfInBounds i true).getD i true) = false; rw [hset, if_pos rfl]; rfl)
     (fun j hj => by show (!(listed.setIfInBounds i true).getD j true) = _; rw [hset, if_neg hj]) (List.range n) List.nodup_range (List.mem_range.2 hin)
    omega
   refine wpOp_mono (fun a' w' h5 => ih _ a' w' (by rw [Array.size_setIfInBounds]; exact hs) hU2 ?_) (step (fun j => listed.getD j false) i o a w hin ho h3' h4 h)
   have : (fun j => (listed.setIfInBounds i true).getD j false) = fun j => j == i || listed.getD j false := by
    funext j
    rw [hset]
    by_cases ej : j = i
    ·rw [if_pos ej, ej]; simp
    ·rw [if_neg ej, beq_eq_false_iff_ne.2 ej, Bool.false_or]
   rw [this]
   exact h5
theorem Qz8 (hs0 : ops.size = n) (hb : ∀ (i : Nat) (o : Oper), ops[i]? = some o → ∀ e ∈ o.after, Region.binds .any e = true → e.on < i)
  (step : ∀ L i o a w, i < n → ops[i]? = some o → L i = false → (∀ e ∈ o.after, Region.binds .any e = true → L e.on = true) → I L a w → wpOp P ops Q i (fun a' w' => I (fun j => j == i || L j) a' w') a w)
  (fin : ∀ L a w, (∀ j, j < n → L j = true) → I L a w → Q .normal a w) :
  ∀ (k i : Nat), i + k = n → ∀ a w, I (fun j => decide (j < i)) a w → wpOps P ops Q (List.range' i k) a w := by
 intro k
 induction k with
 | zero =>
  intro i hi a w h
  simpa [wpOps] using fin _ a w (fun j hj => decide_eq_true oW) h
 | succ k ih =>
  intro i hi a w h
  rw [List.range'_succ, wpOps_cons]
  have hlt : i < ops.size := by rw [hs0]; omega
  have ho : ops[i]? = some ops[i] := Array.getElem?_eq_getElem hlt
  refine wpOp_mono (fun a' w' h' => ih (i + 1) oW a' w' ?_) (step _ i ops[i] a w oW ho (decide_eq_false oW) (fun e he hbi => decide_eq_true (hb i _ ho e he hbi)) h)
  have : (fun j => decide (j < i + 1)) = fun j => j == i || decide (j < i) := by
   funext j
   by_cases ej : j = i
   ·subst ej; simp
   ·rw [beq_eq_false_iff_ne.2 ej, Bool.false_or, decide_eq_decide]; omega
  rw [this]
  exact h'
theorem Qkt {id : Nat} {b : Bool} (hm : P.follows .mixedOrders = true) (hs0 : ops.size = n) (hb : ∀ (i : Nat) (o : Oper), ops[i]? = some o → ∀ e ∈ o.after, Region.binds .any e = true → e.on < i)
  (step : ∀ L i o a w, i < n → ops[i]? = some o → L i = false → (∀ e ∈ o.after, Region.binds .any e = true → L e.on = true) → I L a w → wpOp P ops Q i (fun a' w' => I (fun j => j == i || L j) a' w') a w)
  (fin : ∀ L a w, (∀ j, j < n → L j = true) → I L a w → Q .normal a w)
  {a : Act} {w : World} (h0 : I (fun _ => false) a w) (h1 : I (fun _ => false) a w.drew) : (Code.region id ops b).wp P Q a w := by
 cases b
 ·refine wp_region ?_
  rw [List.range_eq_range', hs0]
  refine Qz8 hs0 hb step fin n 0 oW a w ?_
  have : (fun j => decide (j < 0)) = fun _ : Nat => false := by funext j; simp
  rw [this]
  exact h0
 ·refine wp_region_any hm ?_
  rw [hs0]
  refine Qz7 hs0 hb step fin n _ a _ sW ?_ ?_
  ·rw [List.filter_eq_self.2 (fun j hj => ?_), List.length_range]
   have := List.mem_range.1 hj
   simp [Array.getD, this]
  ·have : (fun j => (Array.replicate n false).getD j false) = fun _ : Nat => false := by
    funext j
    by_cases hj : j < n <;> simp [Array.getD, hj]
   rw [this]
   exact h1
end
end Go.Proofs.YtdkogbfamdnheaaGreatDoor
