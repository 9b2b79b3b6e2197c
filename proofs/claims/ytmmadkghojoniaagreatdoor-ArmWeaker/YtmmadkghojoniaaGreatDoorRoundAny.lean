/- A region without defer statements that is shown, order by order, outside of rounds serves in a round of the wide fence too. -/
import Derived.OrdersIn
import Derived.OrdersHeld
import Derived.Deep.RegionHeld
import Derived.RangeFuncCalls
import Derived.TacticsIn
import Derived.Great.Frames
namespace Go.Proofs.YtmmadkghojoniaaGreatDoor
section
variable {P : Program} {ops : Array Oper} {md : Region.Mode} {K : Act → World → Prop} {n l : Nat}
end
section
variable {P : Program} {ops : Array Oper} {md : Region.Mode} {Q : Exit → Act → World → Prop}
end
end Go.Proofs.YtmmadkghojoniaaGreatDoor
