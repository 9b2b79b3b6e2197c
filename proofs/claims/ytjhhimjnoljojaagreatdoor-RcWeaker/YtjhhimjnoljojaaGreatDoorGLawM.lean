/- What follows of a well-formed graph: the maths of GraphLaws. -/
import Derived.Test.YtjhhimjnoljojaaGreatDoorJ22
import Derived.Test.YtjhhimjnoljojaaGreatDoorJ21
import Derived.Test.YtjhhimjnoljojaaGreatDoorJ28
namespace Go.Proofs.YtjhhimjnoljojaaGreatDoor
open Go.RowKit Go.Shelf Sx
end Go.Proofs.YtjhhimjnoljojaaGreatDoor
