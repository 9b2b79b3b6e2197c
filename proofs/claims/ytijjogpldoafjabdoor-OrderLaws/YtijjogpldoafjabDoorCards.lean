/-
  DERIVED. GIVEN WITH THE SEED: THE CARDS: each row of YtijjogpldoafjabDoorRows.lean that lists a variable, with what it lists TIED to the program's text (the seventh form; the later family's looks); each row that meets fmt, with fmt's text TOLD by the authors' own Lean function (tested against real Go, not proved from fmt's source: count such statements apart). THE CARD IS WHAT COUNTS. Prove the row's statement (the work); the ties are given (YtijjogpldoafjabDoorTie.lean); close each card by the builder's one call (the guide's Derived/Test/ToyasCard.lean, 'card_holds'). Laid BY PROGRAM, IN A SANDBOX (cutbox-door.mjs). By AI agents, Wed Nov 11 2026. No macro, syntax, notation, axiom, sorry.
-/
import Derived.Test.YtijjogpldoafjabDoorRows
import GoSem.ClaimSeven
namespace Go.Proofs.YtijjogpldoafjabDoor
namespace Rows

/-- THE TIED CARD OF 'sextantlaw2.OrderLaws'. -/
def orderLawsCard : Claim7 := { stood := { row := orderLawsRow, standIns := [], harness := (true, "0e3888846cd87f49caeb008ddef8d410841aa90fc53581f6505deaf1e1b40c0f"), looks := false }, kinds := [], alts := [], laidByText := true, laidKinds := [.data], laidTests := true, laidLooks := .later }
def OrderLawsCardSaid : Prop := Claim7.holds Tryd.pinned (.plain (OpenSpec.ofChange orderLawsSpec)) orderLawsCard

/-- THE SECOND FORM's CARD OF 'sextantlaw2.OrderLaws'. -/
def orderLawsUptoCard : Claim7 := { stood := { row := orderLawsUptoRow, standIns := [], harness := (true, "0e3888846cd87f49caeb008ddef8d410841aa90fc53581f6505deaf1e1b40c0f"), looks := false }, kinds := [], alts := [], laidByText := true, laidKinds := [.data], laidTests := true, laidLooks := .later }
def OrderLawsUptoCardSaid : Prop := Claim7.holds Tryd.pinned (.plain (OpenSpec.upto orderLawsSpec)) orderLawsUptoCard
end Rows
end Go.Proofs.YtijjogpldoafjabDoor
