/- The contracts of the document's own in, Has and Wide. -/
import Derived.Test.YtmmadkghojoniaaGreatDoorJ13
import Derived.BigRegion
namespace Go.Proofs.YtmmadkghojoniaaGreatDoor
open Go.RowKit Go.Shelf Sx
structure WideAt (w W : World) (B n N : Nat) (Mr Mw : Value) (rw_ : Nat → Nat) (F : Nat → Nat → Bool) : Prop where
  below : Below w.heap.size w W
  old : Blk W w.heap.size 51 #[.int .i64 ((n : Nat) : Int), Mr]
  res : Blk W (w.heap.size + 1) 51 #[.int .i64 0, .slice none 0 0]
  box : Blk W B 51 #[.int .i64 ((N : Nat) : Int), Mw]
  ref : RefM (w.heap.size + 2) W Mw N N rw_ F
  far : ∀ p, p < N → rw_ p ≠ B
  hB : w.heap.size + 2 ≤ B
theorem WideAt.put {w W : World} {B n N : Nat} {Mr Mw : Value} {rw_ : Nat → Nat} {F : Nat → Nat → Bool} (h : WideAt w W B n N Mr Mw rw_ F) {p q : Nat} (hp : p < N) (hq : q < N) (b : Bool) : WideAt w (W.setCell ⟨rw_ p, q, none⟩ (.bool b)) B n N Mr Mw rw_ (upd F p q b) := by
  have hr := (h.ref.row p hp).1
  exact ⟨h.below.setCell (by simp; omega) _, h.old.setOther (by simp; omega) _, h.res.setOther (by simp; omega) _, h.box.setOther (fun e => h.far p hp e.symm) _, h.ref.put hp hq b, h.far, h.hB⟩
theorem WideAt.drew {w W : World} {B n N : Nat} {Mr Mw : Value} {rw_ : Nat → Nat} {F : Nat → Nat → Bool} (h : WideAt w W B n N Mr Mw rw_ F) : WideAt w W.drew B n N Mr Mw rw_ F :=
  ⟨h.below.drew, h.old, h.res, h.box, h.ref.drew, h.far, h.hB⟩
end Go.Proofs.YtmmadkghojoniaaGreatDoor
namespace Go.Proofs.YtmmadkghojoniaaGreatDoor
open Go.RowKit Go.Shelf Sx
structure MkAt (w W : World) (k : Nat) (bs : List (Nat × Array Value)) (B N : Nat) (M : Value) (rb : Nat → Nat) (F : Nat → Nat → Bool) : Prop where
  below : Below w.heap.size w W
  bx : ∀ x ∈ bs, x.1 < k ∧ Blk W (w.heap.size + x.1) 51 x.2
  box : Blk W B 51 #[.int .i64 ((N : Nat) : Int), M]
  ref : RefM (w.heap.size + k) W M N N rb F
  far : ∀ p, p < N → rb p ≠ B
  hB : w.heap.size + k ≤ B
section
variable {w W : World} {k : Nat} {bs : List (Nat × Array Value)} {B N : Nat} {M : Value} {rb : Nat → Nat} {F : Nat → Nat → Bool}
theorem MkAt.put (h : MkAt w W k bs B N M rb F) {p q : Nat} (hp : p < N) (hq : q < N) (b : Bool) : MkAt w (W.setCell ⟨rb p, q, none⟩ (.bool b)) k bs B N M rb (upd F p q b) := by
  have hr := (h.ref.row p hp).1
  exact ⟨h.below.setCell (by simp; omega) _, fun x hx => ⟨(h.bx x hx).1, (h.bx x hx).2.setOther (by have := (h.bx x hx).1; simp; omega) _⟩, h.box.setOther (fun e => h.far p hp e.symm) _, h.ref.put hp hq b, h.far, h.hB⟩
theorem MkAt.step {W' : World} (h : MkAt w W k bs B N M rb F) (hB : Below W.heap.size W W') : MkAt w W' k bs B N M rb F :=
  ⟨below_step h.below h.below.size hB, fun x hx => ⟨(h.bx x hx).1, (h.bx x hx).2.of_below hB⟩, h.box.of_below hB, h.ref.below hB, h.far, h.hB⟩
theorem MkAt.drew (h : MkAt w W k bs B N M rb F) : MkAt w W.drew k bs B N M rb F := h.step (Below.refl _ _).drew
theorem MkAt.congr {G : Nat → Nat → Bool} (h : MkAt w W k bs B N M rb F) (hfg : ∀ p q, p < N → q < N → F p q = G p q) : MkAt w W k bs B N M rb G :=
  ⟨h.below, h.bx, h.box, h.ref.congr hfg, h.far, h.hB⟩
theorem MkAt.fst {i : Nat} {A : Array Value} {l : List (Nat × Array Value)} (h : MkAt w W k ((i, A) :: l) B N M rb F) : Blk W (w.heap.size + i) 51 A := (h.bx (i, A) (by simp)).2
theorem MkAt.snd {x : Nat × Array Value} {i : Nat} {A : Array Value} {l : List (Nat × Array Value)} (h : MkAt w W k (x :: (i, A) :: l) B N M rb F) : Blk W (w.heap.size + i) 51 A := (h.bx (i, A) (by simp)).2
end
section
variable {P : Program} {ops : Array Oper} {md : Region.Mode} {Q : Exit → Act → World → Prop} {S : World → Prop}
end
end Go.Proofs.YtmmadkghojoniaaGreatDoor
