import Derived.Test.YtdkogbfamdnheaaGreatDoorW0
import Derived.OrdersIn
import Derived.RangeFuncCalls
import Derived.TacticsIn
import Derived.Great.Frames
namespace Go.Proofs.YtdkogbfamdnheaaGreatDoor
set_option maxRecDepth 100000
set_option maxHeartbeats 16000000
set_option linter.unusedSimpArgs false
set_option linter.unusedVariables false
section
variable {P : Program} {ops : Array Oper} {md : Region.Mode} {K : Act → World → Prop} {n l : Nat}
end
section
variable {P : Program} {ops : Array Oper} {md : Region.Mode} {Q : Exit → Act → World → Prop}
end
end Go.Proofs.YtdkogbfamdnheaaGreatDoor
