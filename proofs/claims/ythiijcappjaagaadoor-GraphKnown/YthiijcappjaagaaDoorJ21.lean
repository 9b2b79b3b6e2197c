/- The contract of the document's own Put. -/
import Derived.Test.YthiijcappjaagaaDoorJ20
import Derived.Laws.ResultCell
import Derived.Test.YthiijcappjaagaaDoorJ19
import Derived.Test.YthiijcappjaagaaDoorJ10
import Derived.Test.YthiijcappjaagaaDoorJ09
namespace Go.Proofs.YthiijcappjaagaaDoor
open Go.RowKit Go.Shelf Sx
end Go.Proofs.YthiijcappjaagaaDoor
namespace Go.Proofs.YthiijcappjaagaaDoor
open Go.RowKit Go.Shelf Sx
end Go.Proofs.YthiijcappjaagaaDoor
namespace Go.Proofs.YthiijcappjaagaaDoor
open Go.RowKit Go.Shelf Sx
def extF (n : Nat) (F : Nat → Nat → Bool) : Nat → Nat → Bool := fun p q => decide (p < n) && (decide (q < n) && F p q)
end Go.Proofs.YthiijcappjaagaaDoor
namespace Go.Proofs.YthiijcappjaagaaDoor
open Go.RowKit Go.Shelf Sx
end Go.Proofs.YthiijcappjaagaaDoor
namespace Go.Proofs.YthiijcappjaagaaDoor
open Go.RowKit Go.Shelf Sx
end Go.Proofs.YthiijcappjaagaaDoor
namespace Go.Proofs.YthiijcappjaagaaDoor
open Go.RowKit Go.Shelf Sx Relation
def Same (N : Nat) (F : Nat → Nat → Bool) (L : List Nat) : Prop := ∀ p q, p < N → q < N → (F p q = true ↔ hs L p q)
section
variable {N : Nat} {F : Nat → Nat → Bool} {L : List Nat}
end
end Go.Proofs.YthiijcappjaagaaDoor
namespace Go.Proofs.YthiijcappjaagaaDoor
open Go.RowKit Go.Shelf Sx
end Go.Proofs.YthiijcappjaagaaDoor
namespace Go.Proofs.YthiijcappjaagaaDoor
open Go.RowKit Go.Shelf Sx
end Go.Proofs.YthiijcappjaagaaDoor
namespace Go.Proofs.YthiijcappjaagaaDoor
open Go.RowKit Go.Shelf Sx
def prsRow (F : Nat → Nat → Bool) (p q : Nat) : List (Nat × Nat) := ((List.range q).filter (F p)).map (fun y => (p, y))
def prsF (n : Nat) (F : Nat → Nat → Bool) (p q : Nat) : List (Nat × Nat) := (List.range p).flatMap (fun x => prsRow F x n) ++ prsRow F p q
end Go.Proofs.YthiijcappjaagaaDoor
namespace Go.Proofs.YthiijcappjaagaaDoor
open Go.RowKit Go.Shelf Sx
end Go.Proofs.YthiijcappjaagaaDoor
namespace Go.Proofs.YthiijcappjaagaaDoor
open Go.RowKit Go.Shelf Sx Relation
structure Twin (n : Nat) (F : Nat → Nat → Bool) (L : List Nat) : Prop where
  wf : WF n L
  same : Same n F L
section
variable {n m N : Nat} {F G : Nat → Nat → Bool} {A B : List Nat}
theorem Twin.ext (h : Twin n F A) (p q : Nat) : extF n F p q = true ↔ hs A p q := by
  unfold extF
  rw [Bool.and_eq_true, Bool.and_eq_true, decide_eq_true_eq, decide_eq_true_eq]
  constructor
  · rintro ⟨h1, h2, h3⟩
    exact (h.same p q h1 h2).1 h3
  · intro h1
    have h2 := hs_left h1
    rw [h.wf.len] at h2
    exact ⟨h2, h.wf.low _ _ h1, (h.same p q h2 (h.wf.low _ _ h1)).2 h1⟩
theorem Twin.low (h : Twin n F A) {p q : Nat} (h1 : hs A p q) : p < n ∧ q < n := by
  have h2 := hs_left h1
  rw [h.wf.len] at h2
  exact ⟨h2, h.wf.low _ _ h1⟩
end
end Go.Proofs.YthiijcappjaagaaDoor
namespace Go.Proofs.YthiijcappjaagaaDoor
open Go.RowKit Go.Shelf Sx Relation
section
variable {n m N : Nat} {F G : Nat → Nat → Bool} {A B : List Nat}
theorem bits_row (hn : n ≤ 256) (ha : Twin n F A) {p : Nat} (hp : p < n) : bitsOf (gr A p) = (List.range n).filter (F p) := by
  unfold bitsOf bitsN
  obtain ⟨d, hd⟩ : ∃ d, 256 = n + d := ⟨256 - n, by omega⟩
  have hz : (List.map (fun x => n + x) (List.range d)).filter (gr A p).testBit = [] := by
    rw [List.filter_eq_nil_iff]
    intro q hq h
    obtain ⟨r, _, rfl⟩ := List.mem_map.1 hq
    have := (ha.low (show hs A p (n + r) from h)).2
    omega
  rw [hd, List.range_add, List.filter_append, hz, List.append_nil]
  apply List.filter_congr
  intro q hq
  have hq : q < n := by simpa using hq
  rw [Bool.eq_iff_iff]
  exact (ha.same p q hp hq).symm
theorem twin_pairs (hn : n ≤ 256) (ha : Twin n F A) : pairsL A = prsF n F n 0 := by
  unfold pairsL pairsK prsF
  rw [ha.wf.len, show prsRow F n 0 = [] from rfl, List.append_nil]
  rw [List.flatMap_def, List.flatMap_def]
  congr 1
  apply List.map_congr_left
  intro p hp
  have hp : p < n := by simpa using hp
  unfold prsRow
  rw [bits_row hn ha hp]
end
end Go.Proofs.YthiijcappjaagaaDoor
