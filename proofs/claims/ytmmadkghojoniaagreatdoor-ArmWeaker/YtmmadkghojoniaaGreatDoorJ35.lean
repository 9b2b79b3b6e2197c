/- The contract of the document's own Put. -/
import Derived.Test.YtmmadkghojoniaaGreatDoorJ34
import Derived.Laws.ResultCell
import Derived.Test.YtmmadkghojoniaaGreatDoorTk
import Derived.Test.YtmmadkghojoniaaGreatDoorJ10
namespace Go.Proofs.YtmmadkghojoniaaGreatDoor
open Go.RowKit Go.Shelf Sx
end Go.Proofs.YtmmadkghojoniaaGreatDoor
namespace Go.Proofs.YtmmadkghojoniaaGreatDoor
open Go.RowKit Go.Shelf Sx
end Go.Proofs.YtmmadkghojoniaaGreatDoor
namespace Go.Proofs.YtmmadkghojoniaaGreatDoor
open Go.RowKit Go.Shelf Sx
end Go.Proofs.YtmmadkghojoniaaGreatDoor
namespace Go.Proofs.YtmmadkghojoniaaGreatDoor
open Go.RowKit Go.Shelf Sx
end Go.Proofs.YtmmadkghojoniaaGreatDoor
namespace Go.Proofs.YtmmadkghojoniaaGreatDoor
open Go.RowKit Go.Shelf Sx
end Go.Proofs.YtmmadkghojoniaaGreatDoor
namespace Go.Proofs.YtmmadkghojoniaaGreatDoor
open Go.RowKit Go.Shelf Sx
structure PrAt (w W : World) (n : Nat) (A v : Value) (l : List (Nat × Nat)) : Prop where
  below : Below w.heap.size w W
  box : Blk W w.heap.size 51 #[.int .i64 ((n : Nat) : Int), A]
  own : W.ownsRow (w.heap.size + 1) 30 2 v l.length (encPs l)
theorem PrAt.more {w W W' : World} {n : Nat} {A v v' : Value} {l : List (Nat × Nat)} {a b : Nat} (h : PrAt w W n A v l)
    (hown : W'.ownsRow (w.heap.size + 1) 30 2 v' (l.length + 1) (encPs l ++ [.int .i64 ((a : Nat) : Int), .int .i64 ((b : Nat) : Int)]))
    (hg : (W.alloc (.cells #[.int .i64 ((a : Nat) : Int), .int .i64 ((b : Nat) : Int)] 30)).grownBy W' v.ownBlock) : PrAt w W' n A v' (l ++ [(a, b)]) := by
  have hlt := h.box.lt
  refine ⟨(h.below.alloc h.below.size _).grown hg (by simp; omega) (fun k e => by have := (h.own.lt k e).1; omega), ?_, ?_⟩
  · exact (hg.block _ (by simp; omega) (fun e => by have := (h.own.lt _ e.symm).1; omega)).trans (h.box.alloc _)
  · rw [encPs_snoc, List.length_append]
    exact hown
theorem owns_lower {w : World} {base base' : Nat} {e : TypeId} {size : Nat} {v : Value} {n : Nat} {xs : List Value} (h : w.ownsRow base e size v n xs) (hb : base' ≤ base) : w.ownsRow base' e size v n xs := by
  refine ⟨h.1, ?_⟩
  rcases h.2 with h2 | ⟨g, cap, cur, e1, e2, e3⟩
  · exact .inl h2
  · exact .inr ⟨g, cap, cur, e1, Nat.le_trans hb e2, e3⟩
end Go.Proofs.YtmmadkghojoniaaGreatDoor
