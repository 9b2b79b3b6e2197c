/- The contracts of the document's own in, Has and Wide. -/
import Derived.Test.YthiijcappjaagaaDoorJ19
import Derived.BigRegion
namespace Go.Proofs.YthiijcappjaagaaDoor
open Go.RowKit Go.Shelf Sx
end Go.Proofs.YthiijcappjaagaaDoor
namespace Go.Proofs.YthiijcappjaagaaDoor
open Go.RowKit Go.Shelf Sx
section
variable {w W : World} {k : Nat} {bs : List (Nat × Array Value)} {B N : Nat} {M : Value} {rb : Nat → Nat} {F : Nat → Nat → Bool}
end
section
variable {P : Program} {ops : Array Oper} {md : Region.Mode} {Q : Exit → Act → World → Prop} {S : World → Prop}
end
end Go.Proofs.YthiijcappjaagaaDoor
