import Derived.Deep.RegionHeld3
import Derived.Below
namespace Go.Proofs.YtdkogbfamdnheaaGreatDoor
open Go Go.RowKit
set_option maxRecDepth 100000
set_option maxHeartbeats 16000000
set_option linter.unusedSimpArgs false
set_option linter.unusedVariables false
theorem oW {p : Prop} (h : p := by omega) : p := h
theorem kW {p : Prop} (h : p := by kernel_rfl) : p := h
theorem dW {p : Prop} (h : p := by decide) : p := h
theorem sW {p : Prop} (h : p := by simp) : p := h
theorem nW {n : Nat} : n ≤ n := Nat.le_refl n
theorem bW {b : Nat} {w : World} : Below b w w := Below.refl b w
end Go.Proofs.YtdkogbfamdnheaaGreatDoor
