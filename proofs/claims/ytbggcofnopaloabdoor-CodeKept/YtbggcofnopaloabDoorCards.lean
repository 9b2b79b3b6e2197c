/-
  DERIVED. GIVEN WITH THE SEED: THE CARDS: each row of YtbggcofnopaloabDoorRows.lean that lists a variable, with what it lists TIED to the program's text (the seventh form; the later family's looks); each row that meets fmt, with fmt's text TOLD by the authors' own Lean function (tested against real Go, not proved from fmt's source: count such statements apart). THE CARD IS WHAT COUNTS. Prove the row's statement (the work); the ties are given (YtbggcofnopaloabDoorTie.lean); close each card by the builder's one call (the guide's Derived/Test/ToyasCard.lean, 'card_holds'). Laid BY PROGRAM, IN A SANDBOX (cutbox-door.mjs). By AI agents, Wed Nov 11 2026. No macro, syntax, notation, axiom, sorry.
-/
import Derived.Test.YtbggcofnopaloabDoorRows
import GoSem.ClaimSeven
namespace Go.Proofs.YtbggcofnopaloabDoor
namespace Rows

/-- THE TIED CARD OF 'sextantlaw14.CodeForth'. -/
def codeForthCard : Claim7 := { stood := { row := codeForthRow, standIns := [], harness := (true, "78975ae4a4087138a4e0e88fd703706b291ae69dc07e06fbb411c17dfed82b82"), looks := false }, kinds := [], alts := [], laidByText := true, laidKinds := [.wider], laidTests := true, laidLooks := .later }
def CodeForthCardSaid : Prop := Claim7.holds Tryd.pinned (.plain (OpenSpec.ofChange codeForthSpec)) codeForthCard

/-- THE TIED CARD OF 'sextantlaw14.CodeWords'. -/
def codeWordsCard : Claim7 := { stood := { row := codeWordsRow, standIns := [], harness := (true, "78975ae4a4087138a4e0e88fd703706b291ae69dc07e06fbb411c17dfed82b82"), looks := false }, kinds := [], alts := [], laidByText := true, laidKinds := [.wider], laidTests := true, laidLooks := .later }
def CodeWordsCardSaid : Prop := Claim7.holds Tryd.pinned (.plain (OpenSpec.ofChange codeWordsSpec)) codeWordsCard

/-- THE TIED CARD OF 'sextantlaw14.CodeLists'. -/
def codeListsCard : Claim7 := { stood := { row := codeListsRow, standIns := [], harness := (true, "78975ae4a4087138a4e0e88fd703706b291ae69dc07e06fbb411c17dfed82b82"), looks := false }, kinds := [], alts := [], laidByText := true, laidKinds := [.wider], laidTests := true, laidLooks := .later }
def CodeListsCardSaid : Prop := Claim7.holds Tryd.pinned (.plain (OpenSpec.ofChange codeListsSpec)) codeListsCard

/-- THE TIED CARD OF 'sextantlaw14.CodeLimit'. -/
def codeLimitCard : Claim7 := { stood := { row := codeLimitRow, standIns := [], harness := (true, "78975ae4a4087138a4e0e88fd703706b291ae69dc07e06fbb411c17dfed82b82"), looks := false }, kinds := [], alts := [], laidByText := true, laidKinds := [.wider], laidTests := true, laidLooks := .later }
def CodeLimitCardSaid : Prop := Claim7.holds Tryd.pinned (.plain (OpenSpec.ofChange codeLimitSpec)) codeLimitCard

/-- THE TIED CARD OF 'sextantlaw14.CodeKept'. -/
def codeKeptCard : Claim7 := { stood := { row := codeKeptRow, standIns := [], harness := (true, "78975ae4a4087138a4e0e88fd703706b291ae69dc07e06fbb411c17dfed82b82"), looks := false }, kinds := [], alts := [], laidByText := true, laidKinds := [.wider], laidTests := true, laidLooks := .later }
def CodeKeptCardSaid : Prop := Claim7.holds Tryd.pinned (.plain (OpenSpec.ofChange codeKeptSpec)) codeKeptCard

/-- THE SECOND FORM's CARD OF 'sextantlaw14.CodeForth'. -/
def codeForthUptoCard : Claim7 := { stood := { row := codeForthUptoRow, standIns := [], harness := (true, "78975ae4a4087138a4e0e88fd703706b291ae69dc07e06fbb411c17dfed82b82"), looks := false }, kinds := [], alts := [], laidByText := true, laidKinds := [.wider], laidTests := true, laidLooks := .later }
def CodeForthUptoCardSaid : Prop := Claim7.holds Tryd.pinned (.plain (OpenSpec.upto codeForthSpec)) codeForthUptoCard

/-- THE SECOND FORM's CARD OF 'sextantlaw14.CodeWords'. -/
def codeWordsUptoCard : Claim7 := { stood := { row := codeWordsUptoRow, standIns := [], harness := (true, "78975ae4a4087138a4e0e88fd703706b291ae69dc07e06fbb411c17dfed82b82"), looks := false }, kinds := [], alts := [], laidByText := true, laidKinds := [.wider], laidTests := true, laidLooks := .later }
def CodeWordsUptoCardSaid : Prop := Claim7.holds Tryd.pinned (.plain (OpenSpec.upto codeWordsSpec)) codeWordsUptoCard

/-- THE SECOND FORM's CARD OF 'sextantlaw14.CodeLists'. -/
def codeListsUptoCard : Claim7 := { stood := { row := codeListsUptoRow, standIns := [], harness := (true, "78975ae4a4087138a4e0e88fd703706b291ae69dc07e06fbb411c17dfed82b82"), looks := false }, kinds := [], alts := [], laidByText := true, laidKinds := [.wider], laidTests := true, laidLooks := .later }
def CodeListsUptoCardSaid : Prop := Claim7.holds Tryd.pinned (.plain (OpenSpec.upto codeListsSpec)) codeListsUptoCard

/-- THE SECOND FORM's CARD OF 'sextantlaw14.CodeLimit'. -/
def codeLimitUptoCard : Claim7 := { stood := { row := codeLimitUptoRow, standIns := [], harness := (true, "78975ae4a4087138a4e0e88fd703706b291ae69dc07e06fbb411c17dfed82b82"), looks := false }, kinds := [], alts := [], laidByText := true, laidKinds := [.wider], laidTests := true, laidLooks := .later }
def CodeLimitUptoCardSaid : Prop := Claim7.holds Tryd.pinned (.plain (OpenSpec.upto codeLimitSpec)) codeLimitUptoCard

/-- THE SECOND FORM's CARD OF 'sextantlaw14.CodeKept'. -/
def codeKeptUptoCard : Claim7 := { stood := { row := codeKeptUptoRow, standIns := [], harness := (true, "78975ae4a4087138a4e0e88fd703706b291ae69dc07e06fbb411c17dfed82b82"), looks := false }, kinds := [], alts := [], laidByText := true, laidKinds := [.wider], laidTests := true, laidLooks := .later }
def CodeKeptUptoCardSaid : Prop := Claim7.holds Tryd.pinned (.plain (OpenSpec.upto codeKeptSpec)) codeKeptUptoCard
end Rows
end Go.Proofs.YtbggcofnopaloabDoor
