/-
  NARROWER THAN 'FOR EVERY INPUT', by the rows' own cells (each row's printed sentence says how): CodeForth: laid · CodeWords: laid · CodeLists: laid · CodeLimit: laid · CodeKept: laid.
  DERIVED. THE GIVEN ROWS OF THIS SEAT. 5 by the template 'for every input the law returns true; each argument reads behind the call as it read before'; 0 by the template 'total and deterministic' (their statements: YtbggcofnopaloabDoorTotals.lean).
  GIVEN WITH THE SEED: the statements are not yours to turn. If you find one false, say at which input.
  Laid BY PROGRAM, IN A SANDBOX (cutbox-rows.mjs): the forced cells as the released guide's own fill.sh prints them over the translation 6493d1c3f61a6c67… (all of the seat's roots in one cut). By AI agents, Wed Nov 11 2026. No macro, syntax, notation, axiom, sorry.
-/
import Derived.Test.YtbggcofnopaloabDoorChecked
import GoSem.Claim
import GoSem.ClaimJoined
import GoSem.ClaimMapViews
import Derived.JoinedTies
import Derived.KernelRfl
namespace Go.Proofs.YtbggcofnopaloabDoor
/- THE CELL 'sum', in the pinned program and in every row, IS THE sha256 OF THE DUMP (.gsa) THAT YtbggcofnopaloabDoorProg.lean LOADS. Nothing in Lean hashes anything: it is a label: what it is worth is what the hold of that sum in a sandbox is worth. -/
noncomputable def Tryd.pinned : Pinned := { name := "ytbggcofnopaloabdoor", sum := "6493d1c3f61a6c6730f24c5f925609eb0273fdf98c04a9a21ea88ce51eff32a1", checked := Tryd.checked }
namespace Rows
def none {H : Type} : Left H := { results := [], args := [] }

/- WHAT THE LISTED PACKAGE-LEVEL VARIABLES READ AS WHEN THE CALL BEGINS. Each datum BY PROGRAM (the guide's laid-datum.mjs) off the statement by which the dump's own 'gosem.cut.vars' lays the variable. In a bare row this is a premise. The card (YtbggcofnopaloabDoorCards.lean) ties it to the program's text. -/
def laid_sextant_code_forms {H : Type} : DataW H := .agg [.agg [.lit (.int .u32 0), .agg [.lit (.int .i64 0), .lit (.int .i64 0), .lit (.int .i64 0)], .lit (.bool false)], .agg [.lit (.int .u32 4286578688), .agg [.lit (.int .i64 1), .lit (.int .i64 7), .lit (.int .i64 15)], .lit (.bool false)], .agg [.lit (.int .u32 4292934656), .agg [.lit (.int .i64 1), .lit (.int .i64 3), .lit (.int .i64 5)], .lit (.bool false)], .agg [.lit (.int .u32 4290772992), .agg [.lit (.int .i64 2), .lit (.int .i64 4), .lit (.int .i64 8)], .lit (.bool false)], .agg [.lit (.int .u32 4290772992), .agg [.lit (.int .i64 1), .lit (.int .i64 3), .lit (.int .i64 9)], .lit (.bool false)], .agg [.lit (.int .u32 4290837504), .agg [.lit (.int .i64 1), .lit (.int .i64 3), .lit (.int .i64 10)], .lit (.bool false)], .agg [.lit (.int .u32 4292934687), .agg [.lit (.int .i64 3), .lit (.int .i64 5), .lit (.int .i64 0)], .lit (.bool false)], .agg [.lit (.int .u32 4294905824), .agg [.lit (.int .i64 1), .lit (.int .i64 16), .lit (.int .i64 0)], .lit (.bool false)], .agg [.lit (.int .u32 4227858432), .agg [.lit (.int .i64 11), .lit (.int .i64 0), .lit (.int .i64 0)], .lit (.bool false)], .agg [.lit (.int .u32 4278190096), .agg [.lit (.int .i64 17), .lit (.int .i64 12), .lit (.int .i64 0)], .lit (.bool false)], .agg [.lit (.int .u32 4278190080), .agg [.lit (.int .i64 1), .lit (.int .i64 12), .lit (.int .i64 0)], .lit (.bool false)], .agg [.lit (.int .u32 4290772992), .agg [.lit (.int .i64 1), .lit (.int .i64 4), .lit (.int .i64 13)], .lit (.bool false)], .agg [.lit (.int .u32 4294966272), .agg [.lit (.int .i64 1), .lit (.int .i64 4), .lit (.int .i64 0)], .lit (.bool false)], .agg [.lit (.int .u32 4292934656), .agg [.lit (.int .i64 1), .lit (.int .i64 4), .lit (.int .i64 6)], .lit (.bool true)], .agg [.lit (.int .u32 4292934656), .agg [.lit (.int .i64 1), .lit (.int .i64 4), .lit (.int .i64 6)], .lit (.bool false)], .agg [.lit (.int .u32 4292934656), .agg [.lit (.int .i64 2), .lit (.int .i64 4), .lit (.int .i64 5)], .lit (.bool false)], .agg [.lit (.int .u32 4294966303), .agg [.lit (.int .i64 14), .lit (.int .i64 0), .lit (.int .i64 0)], .lit (.bool false)]]

/-- 'sextantlaw14.CodeForth': WHATEVER THE INPUT: true; the input reads as it did. -/
def codeForthSpec : ChangeSpec := { name := "codeForth", fn := fun _ => fun
  | [d1, d2] => { results := [.lit (.bool true)], args := [d1, d2] }
  | _ => none }
def codeForthRow : OpenClaim := { program := "ytbggcofnopaloabdoor", sum := "6493d1c3f61a6c6730f24c5f925609eb0273fdf98c04a9a21ea88ce51eff32a1", func := "sextant/sextantlaw14.CodeForth", spec := "codeForth", named := ["sextant/code.forms"], apart := false, laid := [("sextant/code.forms", laid_sextant_code_forms)] }
def CodeForthSaid : Prop := codeForthRow.holds Tryd.pinned (OpenSpec.ofChange codeForthSpec)

/-- ITS FALSE NEIGHBOUR: 'it returns false'. Refute it at one input. -/
def codeForthWrong : ChangeSpec := { name := "codeForth", fn := fun _ => fun
  | [d1, d2] => { results := [.lit (.bool false)], args := [d1, d2] }
  | _ => none }
def CodeForthWrongFalsely : Prop := codeForthRow.holds Tryd.pinned (OpenSpec.ofChange codeForthWrong)

/-- 'sextantlaw14.CodeWords': WHATEVER THE INPUT: true; the input reads as it did. -/
def codeWordsSpec : ChangeSpec := { name := "codeWords", fn := fun _ => fun
  | [d] => { results := [.lit (.bool true)], args := [d] }
  | _ => none }
def codeWordsRow : OpenClaim := { program := "ytbggcofnopaloabdoor", sum := "6493d1c3f61a6c6730f24c5f925609eb0273fdf98c04a9a21ea88ce51eff32a1", func := "sextant/sextantlaw14.CodeWords", spec := "codeWords", unfollowed := true, recurses := true, named := ["sextant/code.forms"], apart := false, laid := [("sextant/code.forms", laid_sextant_code_forms)] }
def CodeWordsSaid : Prop := codeWordsRow.holds Tryd.pinned (OpenSpec.ofChange codeWordsSpec)

/-- ITS FALSE NEIGHBOUR: 'it returns false'. Refute it at one input. -/
def codeWordsWrong : ChangeSpec := { name := "codeWords", fn := fun _ => fun
  | [d] => { results := [.lit (.bool false)], args := [d] }
  | _ => none }
def CodeWordsWrongFalsely : Prop := codeWordsRow.holds Tryd.pinned (OpenSpec.ofChange codeWordsWrong)

/-- 'sextantlaw14.CodeLists': WHATEVER THE INPUT: true; the input reads as it did. -/
def codeListsSpec : ChangeSpec := { name := "codeLists", fn := fun _ => fun
  | [d] => { results := [.lit (.bool true)], args := [d] }
  | _ => none }
def codeListsRow : OpenClaim := { program := "ytbggcofnopaloabdoor", sum := "6493d1c3f61a6c6730f24c5f925609eb0273fdf98c04a9a21ea88ce51eff32a1", func := "sextant/sextantlaw14.CodeLists", spec := "codeLists", unfollowed := true, recurses := true, named := ["sextant/code.forms"], apart := false, laid := [("sextant/code.forms", laid_sextant_code_forms)] }
def CodeListsSaid : Prop := codeListsRow.holds Tryd.pinned (OpenSpec.ofChange codeListsSpec)

/-- ITS FALSE NEIGHBOUR: 'it returns false'. Refute it at one input. -/
def codeListsWrong : ChangeSpec := { name := "codeLists", fn := fun _ => fun
  | [d] => { results := [.lit (.bool false)], args := [d] }
  | _ => none }
def CodeListsWrongFalsely : Prop := codeListsRow.holds Tryd.pinned (OpenSpec.ofChange codeListsWrong)

/-- 'sextantlaw14.CodeLimit': WHATEVER THE INPUT: true; the input reads as it did. -/
def codeLimitSpec : ChangeSpec := { name := "codeLimit", fn := fun _ => fun
  | [] => { results := [.lit (.bool true)], args := [] }
  | _ => none }
def codeLimitRow : OpenClaim := { program := "ytbggcofnopaloabdoor", sum := "6493d1c3f61a6c6730f24c5f925609eb0273fdf98c04a9a21ea88ce51eff32a1", func := "sextant/sextantlaw14.CodeLimit", spec := "codeLimit", unfollowed := true, recurses := true, named := ["sextant/code.forms"], apart := false, laid := [("sextant/code.forms", laid_sextant_code_forms)] }
def CodeLimitSaid : Prop := codeLimitRow.holds Tryd.pinned (OpenSpec.ofChange codeLimitSpec)

/-- ITS FALSE NEIGHBOUR: 'it returns false'. Refute it at one input. -/
def codeLimitWrong : ChangeSpec := { name := "codeLimit", fn := fun _ => fun
  | [] => { results := [.lit (.bool false)], args := [] }
  | _ => none }
def CodeLimitWrongFalsely : Prop := codeLimitRow.holds Tryd.pinned (OpenSpec.ofChange codeLimitWrong)

/-- 'sextantlaw14.CodeKept': WHATEVER THE INPUT: true; the input reads as it did. -/
def codeKeptSpec : ChangeSpec := { name := "codeKept", fn := fun _ => fun
  | [d] => { results := [.lit (.bool true)], args := [d] }
  | _ => none }
def codeKeptRow : OpenClaim := { program := "ytbggcofnopaloabdoor", sum := "6493d1c3f61a6c6730f24c5f925609eb0273fdf98c04a9a21ea88ce51eff32a1", func := "sextant/sextantlaw14.CodeKept", spec := "codeKept", unfollowed := true, recurses := true, named := ["sextant/code.forms"], apart := false, laid := [("sextant/code.forms", laid_sextant_code_forms)] }
def CodeKeptSaid : Prop := codeKeptRow.holds Tryd.pinned (OpenSpec.ofChange codeKeptSpec)

/-- ITS FALSE NEIGHBOUR: 'it returns false'. Refute it at one input. -/
def codeKeptWrong : ChangeSpec := { name := "codeKept", fn := fun _ => fun
  | [d] => { results := [.lit (.bool false)], args := [d] }
  | _ => none }
def CodeKeptWrongFalsely : Prop := codeKeptRow.holds Tryd.pinned (OpenSpec.ofChange codeKeptWrong)

/- THE SECOND FORM. 'bulk': how many values and letters a reading holds, each counted each time it is reached (what is shared counts as often as it is met; a slice's spare places count too). A statement '..UptoSaid' is the law's where the arguments, and the package variables that the reading takes, are together of bulk at most 1048576: NARROWER than '..Said'. Prove '..Said' where nothing that the law and all that it calls make is longer than what came in: it says more and counts as full. Else prove '..UptoSaid'. A law counts once. -/
mutual
def uptoBulk {H : Type} : DataW H → Nat
  | .lit (.string bytes) => bytes.length + 1
  | .lit _ => 1
  | .nil => 1
  | .ptr d => uptoBulk d + 1
  | .slice elems spare => uptoBulkAll elems + uptoBulkAll spare + 1
  | .agg parts => uptoBulkAll parts + 1
  | .iface _ d => uptoBulk d + 1
  | .map entries => uptoBulkEntries entries + 1
  | .held _ => 1
def uptoBulkAll {H : Type} : List (DataW H) → Nat
  | [] => 0
  | d :: r => uptoBulk d + uptoBulkAll r
def uptoBulkEntries {H : Type} : List (Lit × DataW H) → Nat
  | [] => 0
  | x :: r => uptoBulkEntry x + uptoBulkEntries r
def uptoBulkEntry {H : Type} : Lit × DataW H → Nat
  | (.string bytes, d) => bytes.length + uptoBulk d + 1
  | (_, d) => uptoBulk d + 1
 end
def uptoSmall : (H : Type) → List (DataW H) → Bool := fun _ ds => decide (uptoBulkAll ds ≤ 1048576)
def OpenSpec.upto (s : _root_.Go.ChangeSpec) : _root_.Go.OpenSpec := { _root_.Go.OpenSpec.ofChange s with cond := some uptoSmall }

/-- 'sextantlaw14.CodeForth', WHERE WHAT IT READS IS OF BULK AT MOST 1048576: true; the input reads as it did. -/
def codeForthUptoRow : OpenClaim := { program := "ytbggcofnopaloabdoor", sum := "6493d1c3f61a6c6730f24c5f925609eb0273fdf98c04a9a21ea88ce51eff32a1", func := "sextant/sextantlaw14.CodeForth", spec := "codeForth", named := ["sextant/code.forms"], apart := false, laid := [("sextant/code.forms", laid_sextant_code_forms)], narrowed := true }
def CodeForthUptoSaid : Prop := codeForthUptoRow.holds Tryd.pinned (OpenSpec.upto codeForthSpec)

/-- 'sextantlaw14.CodeWords', WHERE WHAT IT READS IS OF BULK AT MOST 1048576: true; the input reads as it did. -/
def codeWordsUptoRow : OpenClaim := { program := "ytbggcofnopaloabdoor", sum := "6493d1c3f61a6c6730f24c5f925609eb0273fdf98c04a9a21ea88ce51eff32a1", func := "sextant/sextantlaw14.CodeWords", spec := "codeWords", unfollowed := true, recurses := true, named := ["sextant/code.forms"], apart := false, laid := [("sextant/code.forms", laid_sextant_code_forms)], narrowed := true }
def CodeWordsUptoSaid : Prop := codeWordsUptoRow.holds Tryd.pinned (OpenSpec.upto codeWordsSpec)

/-- 'sextantlaw14.CodeLists', WHERE WHAT IT READS IS OF BULK AT MOST 1048576: true; the input reads as it did. -/
def codeListsUptoRow : OpenClaim := { program := "ytbggcofnopaloabdoor", sum := "6493d1c3f61a6c6730f24c5f925609eb0273fdf98c04a9a21ea88ce51eff32a1", func := "sextant/sextantlaw14.CodeLists", spec := "codeLists", unfollowed := true, recurses := true, named := ["sextant/code.forms"], apart := false, laid := [("sextant/code.forms", laid_sextant_code_forms)], narrowed := true }
def CodeListsUptoSaid : Prop := codeListsUptoRow.holds Tryd.pinned (OpenSpec.upto codeListsSpec)

/-- 'sextantlaw14.CodeLimit', WHERE WHAT IT READS IS OF BULK AT MOST 1048576: true; the input reads as it did. -/
def codeLimitUptoRow : OpenClaim := { program := "ytbggcofnopaloabdoor", sum := "6493d1c3f61a6c6730f24c5f925609eb0273fdf98c04a9a21ea88ce51eff32a1", func := "sextant/sextantlaw14.CodeLimit", spec := "codeLimit", unfollowed := true, recurses := true, named := ["sextant/code.forms"], apart := false, laid := [("sextant/code.forms", laid_sextant_code_forms)], narrowed := true }
def CodeLimitUptoSaid : Prop := codeLimitUptoRow.holds Tryd.pinned (OpenSpec.upto codeLimitSpec)

/-- 'sextantlaw14.CodeKept', WHERE WHAT IT READS IS OF BULK AT MOST 1048576: true; the input reads as it did. -/
def codeKeptUptoRow : OpenClaim := { program := "ytbggcofnopaloabdoor", sum := "6493d1c3f61a6c6730f24c5f925609eb0273fdf98c04a9a21ea88ce51eff32a1", func := "sextant/sextantlaw14.CodeKept", spec := "codeKept", unfollowed := true, recurses := true, named := ["sextant/code.forms"], apart := false, laid := [("sextant/code.forms", laid_sextant_code_forms)], narrowed := true }
def CodeKeptUptoSaid : Prop := codeKeptUptoRow.holds Tryd.pinned (OpenSpec.upto codeKeptSpec)

end Rows
end Go.Proofs.YtbggcofnopaloabDoor
