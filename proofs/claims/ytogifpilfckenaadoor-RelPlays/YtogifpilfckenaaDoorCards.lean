/-
  DERIVED. GIVEN WITH THE SEED: THE CARDS: each row of YtogifpilfckenaaDoorRows.lean that lists a variable, with what it lists TIED to the program's text (the seventh form; the later family's looks); each row that meets fmt, with fmt's text TOLD by the authors' own Lean function (tested against real Go, not proved from fmt's source: count such statements apart). THE CARD IS WHAT COUNTS. Prove the row's statement (the work); the ties are given (YtogifpilfckenaaDoorTie.lean); close each card by the builder's one call (the guide's Derived/Test/ToyasCard.lean, 'card_holds'). Laid BY PROGRAM, IN A SANDBOX (cutbox-door.mjs). By AI agents, Wed Nov 11 2026. No macro, syntax, notation, axiom, sorry.
-/
import Derived.Test.YtogifpilfckenaaDoorRows
import GoSem.ClaimSeven
namespace Go.Proofs.YtogifpilfckenaaDoor
namespace Rows

/-- THE TIED CARD OF 'sextantlaw1.RelKnown'. -/
def relKnownCard : Claim7 := { stood := { row := relKnownRow, standIns := [], harness := (true, "e0fa25a52c6a3cc7f398654a2e40f9efbccb692f556a8de1e76a8d08d9bf641e"), looks := false }, kinds := [], alts := [], laidByText := true, laidKinds := [.data], laidTests := true, laidLooks := .later }
def RelKnownCardSaid : Prop := Claim7.holds Tryd.pinned (.plain (OpenSpec.ofChange relKnownSpec)) relKnownCard

/-- THE TIED CARD OF 'sextantlaw1.RelPlays'. -/
def relPlaysCard : Claim7 := { stood := { row := relPlaysRow, standIns := [], harness := (true, "e0fa25a52c6a3cc7f398654a2e40f9efbccb692f556a8de1e76a8d08d9bf641e"), looks := false }, kinds := [], alts := [], laidByText := true, laidKinds := [.data], laidTests := true, laidLooks := .later }
def RelPlaysCardSaid : Prop := Claim7.holds Tryd.pinned (.plain (OpenSpec.ofChange relPlaysSpec)) relPlaysCard

/-- THE TIED CARD OF 'sextantlaw1.RelLaws'. -/
def relLawsCard : Claim7 := { stood := { row := relLawsRow, standIns := [], harness := (true, "e0fa25a52c6a3cc7f398654a2e40f9efbccb692f556a8de1e76a8d08d9bf641e"), looks := false }, kinds := [], alts := [], laidByText := true, laidKinds := [.data], laidTests := true, laidLooks := .later }
def RelLawsCardSaid : Prop := Claim7.holds Tryd.pinned (.plain (OpenSpec.ofChange relLawsSpec)) relLawsCard

/-- THE TIED CARD OF 'sextantlaw1.RelCycles'. -/
def relCyclesCard : Claim7 := { stood := { row := relCyclesRow, standIns := [], harness := (true, "e0fa25a52c6a3cc7f398654a2e40f9efbccb692f556a8de1e76a8d08d9bf641e"), looks := false }, kinds := [], alts := [], laidByText := true, laidKinds := [.data], laidTests := true, laidLooks := .later }
def RelCyclesCardSaid : Prop := Claim7.holds Tryd.pinned (.plain (OpenSpec.ofChange relCyclesSpec)) relCyclesCard

/-- THE SECOND FORM's CARD OF 'sextantlaw1.RelKnown'. -/
def relKnownUptoCard : Claim7 := { stood := { row := relKnownUptoRow, standIns := [], harness := (true, "e0fa25a52c6a3cc7f398654a2e40f9efbccb692f556a8de1e76a8d08d9bf641e"), looks := false }, kinds := [], alts := [], laidByText := true, laidKinds := [.data], laidTests := true, laidLooks := .later }
def RelKnownUptoCardSaid : Prop := Claim7.holds Tryd.pinned (.plain (OpenSpec.upto relKnownSpec)) relKnownUptoCard

/-- THE SECOND FORM's CARD OF 'sextantlaw1.RelPlays'. -/
def relPlaysUptoCard : Claim7 := { stood := { row := relPlaysUptoRow, standIns := [], harness := (true, "e0fa25a52c6a3cc7f398654a2e40f9efbccb692f556a8de1e76a8d08d9bf641e"), looks := false }, kinds := [], alts := [], laidByText := true, laidKinds := [.data], laidTests := true, laidLooks := .later }
def RelPlaysUptoCardSaid : Prop := Claim7.holds Tryd.pinned (.plain (OpenSpec.upto relPlaysSpec)) relPlaysUptoCard

/-- THE SECOND FORM's CARD OF 'sextantlaw1.RelLaws'. -/
def relLawsUptoCard : Claim7 := { stood := { row := relLawsUptoRow, standIns := [], harness := (true, "e0fa25a52c6a3cc7f398654a2e40f9efbccb692f556a8de1e76a8d08d9bf641e"), looks := false }, kinds := [], alts := [], laidByText := true, laidKinds := [.data], laidTests := true, laidLooks := .later }
def RelLawsUptoCardSaid : Prop := Claim7.holds Tryd.pinned (.plain (OpenSpec.upto relLawsSpec)) relLawsUptoCard

/-- THE SECOND FORM's CARD OF 'sextantlaw1.RelCycles'. -/
def relCyclesUptoCard : Claim7 := { stood := { row := relCyclesUptoRow, standIns := [], harness := (true, "e0fa25a52c6a3cc7f398654a2e40f9efbccb692f556a8de1e76a8d08d9bf641e"), looks := false }, kinds := [], alts := [], laidByText := true, laidKinds := [.data], laidTests := true, laidLooks := .later }
def RelCyclesUptoCardSaid : Prop := Claim7.holds Tryd.pinned (.plain (OpenSpec.upto relCyclesSpec)) relCyclesUptoCard
end Rows
end Go.Proofs.YtogifpilfckenaaDoor
