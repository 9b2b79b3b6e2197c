/-
  NARROWER THAN 'FOR EVERY INPUT', by the rows' own cells (each row's printed sentence says how): ArmKnown: laid · ArmDerives: laid · ArmChecks: laid · ArmWeaker: laid · ArmLaws: laid · ArmListed: laid.
  DERIVED. THE GIVEN ROWS OF THIS SEAT. 6 by the template 'for every input the law returns true; each argument reads behind the call as it read before'; 0 by the template 'total and deterministic' (their statements: YtdkogbfamdnheaaGreatDoorTotals.lean).
  GIVEN WITH THE SEED: the statements are not yours to turn. If you find one false, say at which input.
  Laid BY PROGRAM, IN A SANDBOX (cutbox-rows.mjs): the forced cells as the released guide's own fill.sh prints them over the translation 5637570d481653e1… (all of the seat's roots in one cut). By AI agents, Wed Nov 11 2026. No macro, syntax, notation, axiom, sorry.
-/
import Derived.Test.YtdkogbfamdnheaaGreatDoorChecked
import GoSem.Claim
import GoSem.ClaimJoined
import GoSem.ClaimMapViews
import Derived.JoinedTies
import Derived.KernelRfl
namespace Go.Proofs.YtdkogbfamdnheaaGreatDoor
/- THE CELL 'sum', in the pinned program and in every row, IS THE sha256 OF THE DUMP (.gsa) THAT YtdkogbfamdnheaaGreatDoorProg.lean LOADS. Nothing in Lean hashes anything: it is a label: what it is worth is what the hold of that sum in a sandbox is worth. -/
noncomputable def Tryz.pinned : Pinned := { name := "ytdkogbfamdnheaagreatdoor", sum := "5637570d481653e1bd4e66962c4949d91a9ecbf771022297862c6208a87ebd25", checked := Tryz.checked }
namespace Rows
def none {H : Type} : Left H := { results := [], args := [] }

/- WHAT THE LISTED PACKAGE-LEVEL VARIABLES READ AS WHEN THE CALL BEGINS. Each datum BY PROGRAM (the guide's laid-datum.mjs) off the statement by which the dump's own 'gosem.cut.vars' lays the variable. In a bare row this is a premise. The card (YtdkogbfamdnheaaGreatDoorCards.lean) ties it to the program's text. -/
def laid_math_bits_deBruijn64tab {H : Type} : DataW H := .agg [.lit (.int .u8 0), .lit (.int .u8 1), .lit (.int .u8 56), .lit (.int .u8 2), .lit (.int .u8 57), .lit (.int .u8 49), .lit (.int .u8 28), .lit (.int .u8 3), .lit (.int .u8 61), .lit (.int .u8 58), .lit (.int .u8 42), .lit (.int .u8 50), .lit (.int .u8 38), .lit (.int .u8 29), .lit (.int .u8 17), .lit (.int .u8 4), .lit (.int .u8 62), .lit (.int .u8 47), .lit (.int .u8 59), .lit (.int .u8 36), .lit (.int .u8 45), .lit (.int .u8 43), .lit (.int .u8 51), .lit (.int .u8 22), .lit (.int .u8 53), .lit (.int .u8 39), .lit (.int .u8 33), .lit (.int .u8 30), .lit (.int .u8 24), .lit (.int .u8 18), .lit (.int .u8 12), .lit (.int .u8 5), .lit (.int .u8 63), .lit (.int .u8 55), .lit (.int .u8 48), .lit (.int .u8 27), .lit (.int .u8 60), .lit (.int .u8 41), .lit (.int .u8 37), .lit (.int .u8 16), .lit (.int .u8 46), .lit (.int .u8 35), .lit (.int .u8 44), .lit (.int .u8 21), .lit (.int .u8 52), .lit (.int .u8 32), .lit (.int .u8 23), .lit (.int .u8 11), .lit (.int .u8 54), .lit (.int .u8 26), .lit (.int .u8 40), .lit (.int .u8 15), .lit (.int .u8 34), .lit (.int .u8 20), .lit (.int .u8 31), .lit (.int .u8 10), .lit (.int .u8 25), .lit (.int .u8 14), .lit (.int .u8 19), .lit (.int .u8 9), .lit (.int .u8 13), .lit (.int .u8 8), .lit (.int .u8 7), .lit (.int .u8 6)]
def laid_sextant_graph_forms {H : Type} : DataW H := .agg [.agg [.lit (.int .i64 0), .lit (.int .i64 0)], .agg [.lit (.int .i64 38), .lit (.int .i64 71680)], .agg [.lit (.int .i64 42), .lit (.int .i64 10240)], .agg [.lit (.int .i64 60), .lit (.int .i64 49152)]]

/-- 'sextantlaw11.ArmKnown': WHATEVER THE INPUT: true; the input reads as it did. -/
def armKnownSpec : ChangeSpec := { name := "armKnown", fn := fun _ => fun
  | [] => { results := [.lit (.bool true)], args := [] }
  | _ => none }
def armKnownRow : OpenClaim := { program := "ytdkogbfamdnheaagreatdoor", sum := "5637570d481653e1bd4e66962c4949d91a9ecbf771022297862c6208a87ebd25", func := "sextant/sextantlaw11.ArmKnown", spec := "armKnown", unfollowed := true, recurses := true, named := ["sextant/graph.forms", "math/bits.deBruijn64tab"], apart := false, laid := [("math/bits.deBruijn64tab", laid_math_bits_deBruijn64tab), ("sextant/graph.forms", laid_sextant_graph_forms)] }
def ArmKnownSaid : Prop := armKnownRow.holds Tryz.pinned (OpenSpec.ofChange armKnownSpec)

/-- ITS FALSE NEIGHBOUR: 'it returns false'. Refute it at one input. -/
def armKnownWrong : ChangeSpec := { name := "armKnown", fn := fun _ => fun
  | [] => { results := [.lit (.bool false)], args := [] }
  | _ => none }
def ArmKnownWrongFalsely : Prop := armKnownRow.holds Tryz.pinned (OpenSpec.ofChange armKnownWrong)

/-- 'sextantlaw11.ArmDerives': WHATEVER THE INPUT: true; the input reads as it did. -/
def armDerivesSpec : ChangeSpec := { name := "armDerives", fn := fun _ => fun
  | [d] => { results := [.lit (.bool true)], args := [d] }
  | _ => none }
def armDerivesRow : OpenClaim := { program := "ytdkogbfamdnheaagreatdoor", sum := "5637570d481653e1bd4e66962c4949d91a9ecbf771022297862c6208a87ebd25", func := "sextant/sextantlaw11.ArmDerives", spec := "armDerives", unfollowed := true, recurses := true, named := ["sextant/graph.forms", "math/bits.deBruijn64tab"], apart := false, laid := [("math/bits.deBruijn64tab", laid_math_bits_deBruijn64tab), ("sextant/graph.forms", laid_sextant_graph_forms)] }
def ArmDerivesSaid : Prop := armDerivesRow.holds Tryz.pinned (OpenSpec.ofChange armDerivesSpec)

/-- ITS FALSE NEIGHBOUR: 'it returns false'. Refute it at one input. -/
def armDerivesWrong : ChangeSpec := { name := "armDerives", fn := fun _ => fun
  | [d] => { results := [.lit (.bool false)], args := [d] }
  | _ => none }
def ArmDerivesWrongFalsely : Prop := armDerivesRow.holds Tryz.pinned (OpenSpec.ofChange armDerivesWrong)

/-- 'sextantlaw11.ArmChecks': WHATEVER THE INPUT: true; the input reads as it did. -/
def armChecksSpec : ChangeSpec := { name := "armChecks", fn := fun _ => fun
  | [d] => { results := [.lit (.bool true)], args := [d] }
  | _ => none }
def armChecksRow : OpenClaim := { program := "ytdkogbfamdnheaagreatdoor", sum := "5637570d481653e1bd4e66962c4949d91a9ecbf771022297862c6208a87ebd25", func := "sextant/sextantlaw11.ArmChecks", spec := "armChecks", unfollowed := true, recurses := true, named := ["sextant/graph.forms", "math/bits.deBruijn64tab"], apart := false, laid := [("math/bits.deBruijn64tab", laid_math_bits_deBruijn64tab), ("sextant/graph.forms", laid_sextant_graph_forms)] }
def ArmChecksSaid : Prop := armChecksRow.holds Tryz.pinned (OpenSpec.ofChange armChecksSpec)

/-- ITS FALSE NEIGHBOUR: 'it returns false'. Refute it at one input. -/
def armChecksWrong : ChangeSpec := { name := "armChecks", fn := fun _ => fun
  | [d] => { results := [.lit (.bool false)], args := [d] }
  | _ => none }
def ArmChecksWrongFalsely : Prop := armChecksRow.holds Tryz.pinned (OpenSpec.ofChange armChecksWrong)

/-- 'sextantlaw11.ArmWeaker': WHATEVER THE INPUT: true; the input reads as it did. -/
def armWeakerSpec : ChangeSpec := { name := "armWeaker", fn := fun _ => fun
  | [d1, d2, d3] => { results := [.lit (.bool true)], args := [d1, d2, d3] }
  | _ => none }
def armWeakerRow : OpenClaim := { program := "ytdkogbfamdnheaagreatdoor", sum := "5637570d481653e1bd4e66962c4949d91a9ecbf771022297862c6208a87ebd25", func := "sextant/sextantlaw11.ArmWeaker", spec := "armWeaker", unfollowed := true, recurses := true, named := ["sextant/graph.forms", "math/bits.deBruijn64tab"], apart := false, laid := [("math/bits.deBruijn64tab", laid_math_bits_deBruijn64tab), ("sextant/graph.forms", laid_sextant_graph_forms)] }
def ArmWeakerSaid : Prop := armWeakerRow.holds Tryz.pinned (OpenSpec.ofChange armWeakerSpec)

/-- ITS FALSE NEIGHBOUR: 'it returns false'. Refute it at one input. -/
def armWeakerWrong : ChangeSpec := { name := "armWeaker", fn := fun _ => fun
  | [d1, d2, d3] => { results := [.lit (.bool false)], args := [d1, d2, d3] }
  | _ => none }
def ArmWeakerWrongFalsely : Prop := armWeakerRow.holds Tryz.pinned (OpenSpec.ofChange armWeakerWrong)

/-- 'sextantlaw11.ArmLaws': WHATEVER THE INPUT: true; the input reads as it did. -/
def armLawsSpec : ChangeSpec := { name := "armLaws", fn := fun _ => fun
  | [d] => { results := [.lit (.bool true)], args := [d] }
  | _ => none }
def armLawsRow : OpenClaim := { program := "ytdkogbfamdnheaagreatdoor", sum := "5637570d481653e1bd4e66962c4949d91a9ecbf771022297862c6208a87ebd25", func := "sextant/sextantlaw11.ArmLaws", spec := "armLaws", unfollowed := true, recurses := true, named := ["sextant/graph.forms", "math/bits.deBruijn64tab"], apart := false, laid := [("math/bits.deBruijn64tab", laid_math_bits_deBruijn64tab), ("sextant/graph.forms", laid_sextant_graph_forms)] }
def ArmLawsSaid : Prop := armLawsRow.holds Tryz.pinned (OpenSpec.ofChange armLawsSpec)

/-- ITS FALSE NEIGHBOUR: 'it returns false'. Refute it at one input. -/
def armLawsWrong : ChangeSpec := { name := "armLaws", fn := fun _ => fun
  | [d] => { results := [.lit (.bool false)], args := [d] }
  | _ => none }
def ArmLawsWrongFalsely : Prop := armLawsRow.holds Tryz.pinned (OpenSpec.ofChange armLawsWrong)

/-- 'sextantlaw11.ArmListed': WHATEVER THE INPUT: true; the input reads as it did. -/
def armListedSpec : ChangeSpec := { name := "armListed", fn := fun _ => fun
  | [d1, d2] => { results := [.lit (.bool true)], args := [d1, d2] }
  | _ => none }
def armListedRow : OpenClaim := { program := "ytdkogbfamdnheaagreatdoor", sum := "5637570d481653e1bd4e66962c4949d91a9ecbf771022297862c6208a87ebd25", func := "sextant/sextantlaw11.ArmListed", spec := "armListed", unfollowed := true, recurses := true, named := ["sextant/graph.forms", "math/bits.deBruijn64tab"], apart := false, laid := [("math/bits.deBruijn64tab", laid_math_bits_deBruijn64tab), ("sextant/graph.forms", laid_sextant_graph_forms)] }
def ArmListedSaid : Prop := armListedRow.holds Tryz.pinned (OpenSpec.ofChange armListedSpec)

/-- ITS FALSE NEIGHBOUR: 'it returns false'. Refute it at one input. -/
def armListedWrong : ChangeSpec := { name := "armListed", fn := fun _ => fun
  | [d1, d2] => { results := [.lit (.bool false)], args := [d1, d2] }
  | _ => none }
def ArmListedWrongFalsely : Prop := armListedRow.holds Tryz.pinned (OpenSpec.ofChange armListedWrong)

/- THE SECOND FORM. 'bulk': how many values and letters a reading holds, each counted each time it is reached (what is shared counts as often as it is met; a slice's spare places count too). A statement '..UptoSaid' is the law's where the arguments, and the package variables that the reading takes, are together of bulk at most 1048576: NARROWER than '..Said'. Prove '..Said' where nothing that the law and all that it calls make is longer than what came in: it says more and counts as full. Else prove '..UptoSaid'. A law counts once. -/
mutual
def uptoBulk {H : Type} : DataW H → Nat
  | .lit (.string bytes) => bytes.length + 1
  | .lit _ => 1
  | .nil => 1
  | .ptr d => uptoBulk d + 1
  | .slice elems spare => uptoBulkAll elems + uptoBulkAll spare + 1
  | .agg parts => uptoBulkAll parts + 1
  | .iface _ d => uptoBulk d + 1
  | .map entries => uptoBulkEntries entries + 1
  | .held _ => 1
def uptoBulkAll {H : Type} : List (DataW H) → Nat
  | [] => 0
  | d :: r => uptoBulk d + uptoBulkAll r
def uptoBulkEntries {H : Type} : List (Lit × DataW H) → Nat
  | [] => 0
  | x :: r => uptoBulkEntry x + uptoBulkEntries r
def uptoBulkEntry {H : Type} : Lit × DataW H → Nat
  | (.string bytes, d) => bytes.length + uptoBulk d + 1
  | (_, d) => uptoBulk d + 1
 end
def uptoSmall : (H : Type) → List (DataW H) → Bool := fun _ ds => decide (uptoBulkAll ds ≤ 1048576)
def OpenSpec.upto (s : _root_.Go.ChangeSpec) : _root_.Go.OpenSpec := { _root_.Go.OpenSpec.ofChange s with cond := some uptoSmall }

/-- 'sextantlaw11.ArmKnown', WHERE WHAT IT READS IS OF BULK AT MOST 1048576: true; the input reads as it did. -/
def armKnownUptoRow : OpenClaim := { program := "ytdkogbfamdnheaagreatdoor", sum := "5637570d481653e1bd4e66962c4949d91a9ecbf771022297862c6208a87ebd25", func := "sextant/sextantlaw11.ArmKnown", spec := "armKnown", unfollowed := true, recurses := true, named := ["sextant/graph.forms", "math/bits.deBruijn64tab"], apart := false, laid := [("math/bits.deBruijn64tab", laid_math_bits_deBruijn64tab), ("sextant/graph.forms", laid_sextant_graph_forms)], narrowed := true }
def ArmKnownUptoSaid : Prop := armKnownUptoRow.holds Tryz.pinned (OpenSpec.upto armKnownSpec)

/-- 'sextantlaw11.ArmDerives', WHERE WHAT IT READS IS OF BULK AT MOST 1048576: true; the input reads as it did. -/
def armDerivesUptoRow : OpenClaim := { program := "ytdkogbfamdnheaagreatdoor", sum := "5637570d481653e1bd4e66962c4949d91a9ecbf771022297862c6208a87ebd25", func := "sextant/sextantlaw11.ArmDerives", spec := "armDerives", unfollowed := true, recurses := true, named := ["sextant/graph.forms", "math/bits.deBruijn64tab"], apart := false, laid := [("math/bits.deBruijn64tab", laid_math_bits_deBruijn64tab), ("sextant/graph.forms", laid_sextant_graph_forms)], narrowed := true }
def ArmDerivesUptoSaid : Prop := armDerivesUptoRow.holds Tryz.pinned (OpenSpec.upto armDerivesSpec)

/-- 'sextantlaw11.ArmChecks', WHERE WHAT IT READS IS OF BULK AT MOST 1048576: true; the input reads as it did. -/
def armChecksUptoRow : OpenClaim := { program := "ytdkogbfamdnheaagreatdoor", sum := "5637570d481653e1bd4e66962c4949d91a9ecbf771022297862c6208a87ebd25", func := "sextant/sextantlaw11.ArmChecks", spec := "armChecks", unfollowed := true, recurses := true, named := ["sextant/graph.forms", "math/bits.deBruijn64tab"], apart := false, laid := [("math/bits.deBruijn64tab", laid_math_bits_deBruijn64tab), ("sextant/graph.forms", laid_sextant_graph_forms)], narrowed := true }
def ArmChecksUptoSaid : Prop := armChecksUptoRow.holds Tryz.pinned (OpenSpec.upto armChecksSpec)

/-- 'sextantlaw11.ArmWeaker', WHERE WHAT IT READS IS OF BULK AT MOST 1048576: true; the input reads as it did. -/
def armWeakerUptoRow : OpenClaim := { program := "ytdkogbfamdnheaagreatdoor", sum := "5637570d481653e1bd4e66962c4949d91a9ecbf771022297862c6208a87ebd25", func := "sextant/sextantlaw11.ArmWeaker", spec := "armWeaker", unfollowed := true, recurses := true, named := ["sextant/graph.forms", "math/bits.deBruijn64tab"], apart := false, laid := [("math/bits.deBruijn64tab", laid_math_bits_deBruijn64tab), ("sextant/graph.forms", laid_sextant_graph_forms)], narrowed := true }
def ArmWeakerUptoSaid : Prop := armWeakerUptoRow.holds Tryz.pinned (OpenSpec.upto armWeakerSpec)

/-- 'sextantlaw11.ArmLaws', WHERE WHAT IT READS IS OF BULK AT MOST 1048576: true; the input reads as it did. -/
def armLawsUptoRow : OpenClaim := { program := "ytdkogbfamdnheaagreatdoor", sum := "5637570d481653e1bd4e66962c4949d91a9ecbf771022297862c6208a87ebd25", func := "sextant/sextantlaw11.ArmLaws", spec := "armLaws", unfollowed := true, recurses := true, named := ["sextant/graph.forms", "math/bits.deBruijn64tab"], apart := false, laid := [("math/bits.deBruijn64tab", laid_math_bits_deBruijn64tab), ("sextant/graph.forms", laid_sextant_graph_forms)], narrowed := true }
def ArmLawsUptoSaid : Prop := armLawsUptoRow.holds Tryz.pinned (OpenSpec.upto armLawsSpec)

/-- 'sextantlaw11.ArmListed', WHERE WHAT IT READS IS OF BULK AT MOST 1048576: true; the input reads as it did. -/
def armListedUptoRow : OpenClaim := { program := "ytdkogbfamdnheaagreatdoor", sum := "5637570d481653e1bd4e66962c4949d91a9ecbf771022297862c6208a87ebd25", func := "sextant/sextantlaw11.ArmListed", spec := "armListed", unfollowed := true, recurses := true, named := ["sextant/graph.forms", "math/bits.deBruijn64tab"], apart := false, laid := [("math/bits.deBruijn64tab", laid_math_bits_deBruijn64tab), ("sextant/graph.forms", laid_sextant_graph_forms)], narrowed := true }
def ArmListedUptoSaid : Prop := armListedUptoRow.holds Tryz.pinned (OpenSpec.upto armListedSpec)

end Rows
end Go.Proofs.YtdkogbfamdnheaaGreatDoor
