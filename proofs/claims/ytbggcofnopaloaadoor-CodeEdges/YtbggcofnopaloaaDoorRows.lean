/-
  NARROWER THAN 'FOR EVERY INPUT', by the rows' own cells (each row's printed sentence says how): CodeKnown: laid · CodeNames: laid · CodeEdges: laid · CodeEncodes: laid · CodeDecodes: laid · CodeBack: laid.
  DERIVED. THE GIVEN ROWS OF THIS SEAT. 6 by the template 'for every input the law returns true; each argument reads behind the call as it read before'; 0 by the template 'total and deterministic' (their statements: YtbggcofnopaloaaDoorTotals.lean).
  GIVEN WITH THE SEED: the statements are not yours to turn. If you find one false, say at which input.
  Laid BY PROGRAM, IN A SANDBOX (cutbox-rows.mjs): the forced cells as the released guide's own fill.sh prints them over the translation 08e0b0825d279d57… (all of the seat's roots in one cut). By AI agents, Wed Nov 11 2026. No macro, syntax, notation, axiom, sorry.
-/
import Derived.Test.YtbggcofnopaloaaDoorChecked
import GoSem.Claim
import GoSem.ClaimJoined
import GoSem.ClaimMapViews
import Derived.JoinedTies
import Derived.KernelRfl
namespace Go.Proofs.YtbggcofnopaloaaDoor
/- THE CELL 'sum', in the pinned program and in every row, IS THE sha256 OF THE DUMP (.gsa) THAT YtbggcofnopaloaaDoorProg.lean LOADS. Nothing in Lean hashes anything: it is a label: what it is worth is what the hold of that sum in a sandbox is worth. -/
noncomputable def Tryd.pinned : Pinned := { name := "ytbggcofnopaloaadoor", sum := "08e0b0825d279d5736844821dec6031cbe8332e7520e21bd436a96898c191dab", checked := Tryd.checked }
namespace Rows
def none {H : Type} : Left H := { results := [], args := [] }

/- WHAT THE LISTED PACKAGE-LEVEL VARIABLES READ AS WHEN THE CALL BEGINS. Each datum BY PROGRAM (the guide's laid-datum.mjs) off the statement by which the dump's own 'gosem.cut.vars' lays the variable. In a bare row this is a premise. The card (YtbggcofnopaloaaDoorCards.lean) ties it to the program's text. -/
def laid_sextant_code_forms {H : Type} : DataW H := .agg [.agg [.lit (.int .u32 0), .agg [.lit (.int .i64 0), .lit (.int .i64 0), .lit (.int .i64 0)], .lit (.bool false)], .agg [.lit (.int .u32 4286578688), .agg [.lit (.int .i64 1), .lit (.int .i64 7), .lit (.int .i64 15)], .lit (.bool false)], .agg [.lit (.int .u32 4292934656), .agg [.lit (.int .i64 1), .lit (.int .i64 3), .lit (.int .i64 5)], .lit (.bool false)], .agg [.lit (.int .u32 4290772992), .agg [.lit (.int .i64 2), .lit (.int .i64 4), .lit (.int .i64 8)], .lit (.bool false)], .agg [.lit (.int .u32 4290772992), .agg [.lit (.int .i64 1), .lit (.int .i64 3), .lit (.int .i64 9)], .lit (.bool false)], .agg [.lit (.int .u32 4290837504), .agg [.lit (.int .i64 1), .lit (.int .i64 3), .lit (.int .i64 10)], .lit (.bool false)], .agg [.lit (.int .u32 4292934687), .agg [.lit (.int .i64 3), .lit (.int .i64 5), .lit (.int .i64 0)], .lit (.bool false)], .agg [.lit (.int .u32 4294905824), .agg [.lit (.int .i64 1), .lit (.int .i64 16), .lit (.int .i64 0)], .lit (.bool false)], .agg [.lit (.int .u32 4227858432), .agg [.lit (.int .i64 11), .lit (.int .i64 0), .lit (.int .i64 0)], .lit (.bool false)], .agg [.lit (.int .u32 4278190096), .agg [.lit (.int .i64 17), .lit (.int .i64 12), .lit (.int .i64 0)], .lit (.bool false)], .agg [.lit (.int .u32 4278190080), .agg [.lit (.int .i64 1), .lit (.int .i64 12), .lit (.int .i64 0)], .lit (.bool false)], .agg [.lit (.int .u32 4290772992), .agg [.lit (.int .i64 1), .lit (.int .i64 4), .lit (.int .i64 13)], .lit (.bool false)], .agg [.lit (.int .u32 4294966272), .agg [.lit (.int .i64 1), .lit (.int .i64 4), .lit (.int .i64 0)], .lit (.bool false)], .agg [.lit (.int .u32 4292934656), .agg [.lit (.int .i64 1), .lit (.int .i64 4), .lit (.int .i64 6)], .lit (.bool true)], .agg [.lit (.int .u32 4292934656), .agg [.lit (.int .i64 1), .lit (.int .i64 4), .lit (.int .i64 6)], .lit (.bool false)], .agg [.lit (.int .u32 4292934656), .agg [.lit (.int .i64 2), .lit (.int .i64 4), .lit (.int .i64 5)], .lit (.bool false)], .agg [.lit (.int .u32 4294966303), .agg [.lit (.int .i64 14), .lit (.int .i64 0), .lit (.int .i64 0)], .lit (.bool false)]]

/-- 'sextantlaw14.CodeKnown': WHATEVER THE INPUT: true; the input reads as it did. -/
def codeKnownSpec : ChangeSpec := { name := "codeKnown", fn := fun _ => fun
  | [] => { results := [.lit (.bool true)], args := [] }
  | _ => none }
def codeKnownRow : OpenClaim := { program := "ytbggcofnopaloaadoor", sum := "08e0b0825d279d5736844821dec6031cbe8332e7520e21bd436a96898c191dab", func := "sextant/sextantlaw14.CodeKnown", spec := "codeKnown", named := ["sextant/code.forms"], apart := false, laid := [("sextant/code.forms", laid_sextant_code_forms)] }
def CodeKnownSaid : Prop := codeKnownRow.holds Tryd.pinned (OpenSpec.ofChange codeKnownSpec)

/-- ITS FALSE NEIGHBOUR: 'it returns false'. Refute it at one input. -/
def codeKnownWrong : ChangeSpec := { name := "codeKnown", fn := fun _ => fun
  | [] => { results := [.lit (.bool false)], args := [] }
  | _ => none }
def CodeKnownWrongFalsely : Prop := codeKnownRow.holds Tryd.pinned (OpenSpec.ofChange codeKnownWrong)

/-- 'sextantlaw14.CodeNames': WHATEVER THE INPUT: true; the input reads as it did. -/
def codeNamesSpec : ChangeSpec := { name := "codeNames", fn := fun _ => fun
  | [] => { results := [.lit (.bool true)], args := [] }
  | _ => none }
def codeNamesRow : OpenClaim := { program := "ytbggcofnopaloaadoor", sum := "08e0b0825d279d5736844821dec6031cbe8332e7520e21bd436a96898c191dab", func := "sextant/sextantlaw14.CodeNames", spec := "codeNames", named := ["sextant/code.forms"], apart := false, laid := [("sextant/code.forms", laid_sextant_code_forms)] }
def CodeNamesSaid : Prop := codeNamesRow.holds Tryd.pinned (OpenSpec.ofChange codeNamesSpec)

/-- ITS FALSE NEIGHBOUR: 'it returns false'. Refute it at one input. -/
def codeNamesWrong : ChangeSpec := { name := "codeNames", fn := fun _ => fun
  | [] => { results := [.lit (.bool false)], args := [] }
  | _ => none }
def CodeNamesWrongFalsely : Prop := codeNamesRow.holds Tryd.pinned (OpenSpec.ofChange codeNamesWrong)

/-- 'sextantlaw14.CodeEdges': WHATEVER THE INPUT: true; the input reads as it did. -/
def codeEdgesSpec : ChangeSpec := { name := "codeEdges", fn := fun _ => fun
  | [] => { results := [.lit (.bool true)], args := [] }
  | _ => none }
def codeEdgesRow : OpenClaim := { program := "ytbggcofnopaloaadoor", sum := "08e0b0825d279d5736844821dec6031cbe8332e7520e21bd436a96898c191dab", func := "sextant/sextantlaw14.CodeEdges", spec := "codeEdges", named := ["sextant/code.forms"], apart := false, laid := [("sextant/code.forms", laid_sextant_code_forms)] }
def CodeEdgesSaid : Prop := codeEdgesRow.holds Tryd.pinned (OpenSpec.ofChange codeEdgesSpec)

/-- ITS FALSE NEIGHBOUR: 'it returns false'. Refute it at one input. -/
def codeEdgesWrong : ChangeSpec := { name := "codeEdges", fn := fun _ => fun
  | [] => { results := [.lit (.bool false)], args := [] }
  | _ => none }
def CodeEdgesWrongFalsely : Prop := codeEdgesRow.holds Tryd.pinned (OpenSpec.ofChange codeEdgesWrong)

/-- 'sextantlaw14.CodeEncodes': WHATEVER THE INPUT: true; the input reads as it did. -/
def codeEncodesSpec : ChangeSpec := { name := "codeEncodes", fn := fun _ => fun
  | [d] => { results := [.lit (.bool true)], args := [d] }
  | _ => none }
def codeEncodesRow : OpenClaim := { program := "ytbggcofnopaloaadoor", sum := "08e0b0825d279d5736844821dec6031cbe8332e7520e21bd436a96898c191dab", func := "sextant/sextantlaw14.CodeEncodes", spec := "codeEncodes", named := ["sextant/code.forms"], apart := false, laid := [("sextant/code.forms", laid_sextant_code_forms)] }
def CodeEncodesSaid : Prop := codeEncodesRow.holds Tryd.pinned (OpenSpec.ofChange codeEncodesSpec)

/-- ITS FALSE NEIGHBOUR: 'it returns false'. Refute it at one input. -/
def codeEncodesWrong : ChangeSpec := { name := "codeEncodes", fn := fun _ => fun
  | [d] => { results := [.lit (.bool false)], args := [d] }
  | _ => none }
def CodeEncodesWrongFalsely : Prop := codeEncodesRow.holds Tryd.pinned (OpenSpec.ofChange codeEncodesWrong)

/-- 'sextantlaw14.CodeDecodes': WHATEVER THE INPUT: true; the input reads as it did. -/
def codeDecodesSpec : ChangeSpec := { name := "codeDecodes", fn := fun _ => fun
  | [d] => { results := [.lit (.bool true)], args := [d] }
  | _ => none }
def codeDecodesRow : OpenClaim := { program := "ytbggcofnopaloaadoor", sum := "08e0b0825d279d5736844821dec6031cbe8332e7520e21bd436a96898c191dab", func := "sextant/sextantlaw14.CodeDecodes", spec := "codeDecodes", named := ["sextant/code.forms"], apart := false, laid := [("sextant/code.forms", laid_sextant_code_forms)] }
def CodeDecodesSaid : Prop := codeDecodesRow.holds Tryd.pinned (OpenSpec.ofChange codeDecodesSpec)

/-- ITS FALSE NEIGHBOUR: 'it returns false'. Refute it at one input. -/
def codeDecodesWrong : ChangeSpec := { name := "codeDecodes", fn := fun _ => fun
  | [d] => { results := [.lit (.bool false)], args := [d] }
  | _ => none }
def CodeDecodesWrongFalsely : Prop := codeDecodesRow.holds Tryd.pinned (OpenSpec.ofChange codeDecodesWrong)

/-- 'sextantlaw14.CodeBack': WHATEVER THE INPUT: true; the input reads as it did. -/
def codeBackSpec : ChangeSpec := { name := "codeBack", fn := fun _ => fun
  | [d1, d2] => { results := [.lit (.bool true)], args := [d1, d2] }
  | _ => none }
def codeBackRow : OpenClaim := { program := "ytbggcofnopaloaadoor", sum := "08e0b0825d279d5736844821dec6031cbe8332e7520e21bd436a96898c191dab", func := "sextant/sextantlaw14.CodeBack", spec := "codeBack", named := ["sextant/code.forms"], apart := false, laid := [("sextant/code.forms", laid_sextant_code_forms)] }
def CodeBackSaid : Prop := codeBackRow.holds Tryd.pinned (OpenSpec.ofChange codeBackSpec)

/-- ITS FALSE NEIGHBOUR: 'it returns false'. Refute it at one input. -/
def codeBackWrong : ChangeSpec := { name := "codeBack", fn := fun _ => fun
  | [d1, d2] => { results := [.lit (.bool false)], args := [d1, d2] }
  | _ => none }
def CodeBackWrongFalsely : Prop := codeBackRow.holds Tryd.pinned (OpenSpec.ofChange codeBackWrong)

/- THE SECOND FORM. 'bulk': how many values and letters a reading holds, each counted each time it is reached (what is shared counts as often as it is met; a slice's spare places count too). A statement '..UptoSaid' is the law's where the arguments, and the package variables that the reading takes, are together of bulk at most 1048576: NARROWER than '..Said'. Prove '..Said' where nothing that the law and all that it calls make is longer than what came in: it says more and counts as full. Else prove '..UptoSaid'. A law counts once. -/
mutual
def uptoBulk {H : Type} : DataW H → Nat
  | .lit (.string bytes) => bytes.length + 1
  | .lit _ => 1
  | .nil => 1
  | .ptr d => uptoBulk d + 1
  | .slice elems spare => uptoBulkAll elems + uptoBulkAll spare + 1
  | .agg parts => uptoBulkAll parts + 1
  | .iface _ d => uptoBulk d + 1
  | .map entries => uptoBulkEntries entries + 1
  | .held _ => 1
def uptoBulkAll {H : Type} : List (DataW H) → Nat
  | [] => 0
  | d :: r => uptoBulk d + uptoBulkAll r
def uptoBulkEntries {H : Type} : List (Lit × DataW H) → Nat
  | [] => 0
  | x :: r => uptoBulkEntry x + uptoBulkEntries r
def uptoBulkEntry {H : Type} : Lit × DataW H → Nat
  | (.string bytes, d) => bytes.length + uptoBulk d + 1
  | (_, d) => uptoBulk d + 1
 end
def uptoSmall : (H : Type) → List (DataW H) → Bool := fun _ ds => decide (uptoBulkAll ds ≤ 1048576)
def OpenSpec.upto (s : _root_.Go.ChangeSpec) : _root_.Go.OpenSpec := { _root_.Go.OpenSpec.ofChange s with cond := some uptoSmall }

/-- 'sextantlaw14.CodeKnown', WHERE WHAT IT READS IS OF BULK AT MOST 1048576: true; the input reads as it did. -/
def codeKnownUptoRow : OpenClaim := { program := "ytbggcofnopaloaadoor", sum := "08e0b0825d279d5736844821dec6031cbe8332e7520e21bd436a96898c191dab", func := "sextant/sextantlaw14.CodeKnown", spec := "codeKnown", named := ["sextant/code.forms"], apart := false, laid := [("sextant/code.forms", laid_sextant_code_forms)], narrowed := true }
def CodeKnownUptoSaid : Prop := codeKnownUptoRow.holds Tryd.pinned (OpenSpec.upto codeKnownSpec)

/-- 'sextantlaw14.CodeNames', WHERE WHAT IT READS IS OF BULK AT MOST 1048576: true; the input reads as it did. -/
def codeNamesUptoRow : OpenClaim := { program := "ytbggcofnopaloaadoor", sum := "08e0b0825d279d5736844821dec6031cbe8332e7520e21bd436a96898c191dab", func := "sextant/sextantlaw14.CodeNames", spec := "codeNames", named := ["sextant/code.forms"], apart := false, laid := [("sextant/code.forms", laid_sextant_code_forms)], narrowed := true }
def CodeNamesUptoSaid : Prop := codeNamesUptoRow.holds Tryd.pinned (OpenSpec.upto codeNamesSpec)

/-- 'sextantlaw14.CodeEdges', WHERE WHAT IT READS IS OF BULK AT MOST 1048576: true; the input reads as it did. -/
def codeEdgesUptoRow : OpenClaim := { program := "ytbggcofnopaloaadoor", sum := "08e0b0825d279d5736844821dec6031cbe8332e7520e21bd436a96898c191dab", func := "sextant/sextantlaw14.CodeEdges", spec := "codeEdges", named := ["sextant/code.forms"], apart := false, laid := [("sextant/code.forms", laid_sextant_code_forms)], narrowed := true }
def CodeEdgesUptoSaid : Prop := codeEdgesUptoRow.holds Tryd.pinned (OpenSpec.upto codeEdgesSpec)

/-- 'sextantlaw14.CodeEncodes', WHERE WHAT IT READS IS OF BULK AT MOST 1048576: true; the input reads as it did. -/
def codeEncodesUptoRow : OpenClaim := { program := "ytbggcofnopaloaadoor", sum := "08e0b0825d279d5736844821dec6031cbe8332e7520e21bd436a96898c191dab", func := "sextant/sextantlaw14.CodeEncodes", spec := "codeEncodes", named := ["sextant/code.forms"], apart := false, laid := [("sextant/code.forms", laid_sextant_code_forms)], narrowed := true }
def CodeEncodesUptoSaid : Prop := codeEncodesUptoRow.holds Tryd.pinned (OpenSpec.upto codeEncodesSpec)

/-- 'sextantlaw14.CodeDecodes', WHERE WHAT IT READS IS OF BULK AT MOST 1048576: true; the input reads as it did. -/
def codeDecodesUptoRow : OpenClaim := { program := "ytbggcofnopaloaadoor", sum := "08e0b0825d279d5736844821dec6031cbe8332e7520e21bd436a96898c191dab", func := "sextant/sextantlaw14.CodeDecodes", spec := "codeDecodes", named := ["sextant/code.forms"], apart := false, laid := [("sextant/code.forms", laid_sextant_code_forms)], narrowed := true }
def CodeDecodesUptoSaid : Prop := codeDecodesUptoRow.holds Tryd.pinned (OpenSpec.upto codeDecodesSpec)

/-- 'sextantlaw14.CodeBack', WHERE WHAT IT READS IS OF BULK AT MOST 1048576: true; the input reads as it did. -/
def codeBackUptoRow : OpenClaim := { program := "ytbggcofnopaloaadoor", sum := "08e0b0825d279d5736844821dec6031cbe8332e7520e21bd436a96898c191dab", func := "sextant/sextantlaw14.CodeBack", spec := "codeBack", named := ["sextant/code.forms"], apart := false, laid := [("sextant/code.forms", laid_sextant_code_forms)], narrowed := true }
def CodeBackUptoSaid : Prop := codeBackUptoRow.holds Tryd.pinned (OpenSpec.upto codeBackSpec)

end Rows
end Go.Proofs.YtbggcofnopaloaaDoor
