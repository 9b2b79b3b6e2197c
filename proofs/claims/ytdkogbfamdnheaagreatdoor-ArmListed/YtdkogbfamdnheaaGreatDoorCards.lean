/-
  DERIVED. GIVEN WITH THE SEED: THE CARDS: each row of YtdkogbfamdnheaaGreatDoorRows.lean that lists a variable, with what it lists TIED to the program's text (the seventh form; the later family's looks); each row that meets fmt, with fmt's text TOLD by the authors' own Lean function (tested against real Go, not proved from fmt's source: count such statements apart). THE CARD IS WHAT COUNTS. Prove the row's statement (the work); the ties are given (YtdkogbfamdnheaaGreatDoorTie.lean); close each card by the builder's one call (the guide's Derived/Test/ToyasCard.lean, 'card_holds'). Laid BY PROGRAM, IN A SANDBOX (cutbox-door.mjs). By AI agents, Wed Nov 11 2026. No macro, syntax, notation, axiom, sorry.
-/
import Derived.Test.YtdkogbfamdnheaaGreatDoorRows
import GoSem.ClaimSeven
namespace Go.Proofs.YtdkogbfamdnheaaGreatDoor
namespace Rows

/-- THE TIED CARD OF 'sextantlaw11.ArmKnown'. -/
def armKnownCard : Claim7 := { stood := { row := armKnownRow, standIns := [], harness := (true, "84b231d97cbdb698aff18bf82633d06d6d5e03f9f3e74df33b0aa95033a042eb"), looks := false }, kinds := [], alts := [], laidByText := true, laidKinds := [.data, .data], laidTests := true, laidLooks := .later }
def ArmKnownCardSaid : Prop := Claim7.holds Tryz.pinned (.plain (OpenSpec.ofChange armKnownSpec)) armKnownCard

/-- THE TIED CARD OF 'sextantlaw11.ArmDerives'. -/
def armDerivesCard : Claim7 := { stood := { row := armDerivesRow, standIns := [], harness := (true, "84b231d97cbdb698aff18bf82633d06d6d5e03f9f3e74df33b0aa95033a042eb"), looks := false }, kinds := [], alts := [], laidByText := true, laidKinds := [.data, .data], laidTests := true, laidLooks := .later }
def ArmDerivesCardSaid : Prop := Claim7.holds Tryz.pinned (.plain (OpenSpec.ofChange armDerivesSpec)) armDerivesCard

/-- THE TIED CARD OF 'sextantlaw11.ArmChecks'. -/
def armChecksCard : Claim7 := { stood := { row := armChecksRow, standIns := [], harness := (true, "84b231d97cbdb698aff18bf82633d06d6d5e03f9f3e74df33b0aa95033a042eb"), looks := false }, kinds := [], alts := [], laidByText := true, laidKinds := [.data, .data], laidTests := true, laidLooks := .later }
def ArmChecksCardSaid : Prop := Claim7.holds Tryz.pinned (.plain (OpenSpec.ofChange armChecksSpec)) armChecksCard

/-- THE TIED CARD OF 'sextantlaw11.ArmWeaker'. -/
def armWeakerCard : Claim7 := { stood := { row := armWeakerRow, standIns := [], harness := (true, "84b231d97cbdb698aff18bf82633d06d6d5e03f9f3e74df33b0aa95033a042eb"), looks := false }, kinds := [], alts := [], laidByText := true, laidKinds := [.data, .data], laidTests := true, laidLooks := .later }
def ArmWeakerCardSaid : Prop := Claim7.holds Tryz.pinned (.plain (OpenSpec.ofChange armWeakerSpec)) armWeakerCard

/-- THE TIED CARD OF 'sextantlaw11.ArmLaws'. -/
def armLawsCard : Claim7 := { stood := { row := armLawsRow, standIns := [], harness := (true, "84b231d97cbdb698aff18bf82633d06d6d5e03f9f3e74df33b0aa95033a042eb"), looks := false }, kinds := [], alts := [], laidByText := true, laidKinds := [.data, .data], laidTests := true, laidLooks := .later }
def ArmLawsCardSaid : Prop := Claim7.holds Tryz.pinned (.plain (OpenSpec.ofChange armLawsSpec)) armLawsCard

/-- THE TIED CARD OF 'sextantlaw11.ArmListed'. -/
def armListedCard : Claim7 := { stood := { row := armListedRow, standIns := [], harness := (true, "84b231d97cbdb698aff18bf82633d06d6d5e03f9f3e74df33b0aa95033a042eb"), looks := false }, kinds := [], alts := [], laidByText := true, laidKinds := [.data, .data], laidTests := true, laidLooks := .later }
def ArmListedCardSaid : Prop := Claim7.holds Tryz.pinned (.plain (OpenSpec.ofChange armListedSpec)) armListedCard

/-- THE SECOND FORM's CARD OF 'sextantlaw11.ArmKnown'. -/
def armKnownUptoCard : Claim7 := { stood := { row := armKnownUptoRow, standIns := [], harness := (true, "84b231d97cbdb698aff18bf82633d06d6d5e03f9f3e74df33b0aa95033a042eb"), looks := false }, kinds := [], alts := [], laidByText := true, laidKinds := [.data, .data], laidTests := true, laidLooks := .later }
def ArmKnownUptoCardSaid : Prop := Claim7.holds Tryz.pinned (.plain (OpenSpec.upto armKnownSpec)) armKnownUptoCard

/-- THE SECOND FORM's CARD OF 'sextantlaw11.ArmDerives'. -/
def armDerivesUptoCard : Claim7 := { stood := { row := armDerivesUptoRow, standIns := [], harness := (true, "84b231d97cbdb698aff18bf82633d06d6d5e03f9f3e74df33b0aa95033a042eb"), looks := false }, kinds := [], alts := [], laidByText := true, laidKinds := [.data, .data], laidTests := true, laidLooks := .later }
def ArmDerivesUptoCardSaid : Prop := Claim7.holds Tryz.pinned (.plain (OpenSpec.upto armDerivesSpec)) armDerivesUptoCard

/-- THE SECOND FORM's CARD OF 'sextantlaw11.ArmChecks'. -/
def armChecksUptoCard : Claim7 := { stood := { row := armChecksUptoRow, standIns := [], harness := (true, "84b231d97cbdb698aff18bf82633d06d6d5e03f9f3e74df33b0aa95033a042eb"), looks := false }, kinds := [], alts := [], laidByText := true, laidKinds := [.data, .data], laidTests := true, laidLooks := .later }
def ArmChecksUptoCardSaid : Prop := Claim7.holds Tryz.pinned (.plain (OpenSpec.upto armChecksSpec)) armChecksUptoCard

/-- THE SECOND FORM's CARD OF 'sextantlaw11.ArmWeaker'. -/
def armWeakerUptoCard : Claim7 := { stood := { row := armWeakerUptoRow, standIns := [], harness := (true, "84b231d97cbdb698aff18bf82633d06d6d5e03f9f3e74df33b0aa95033a042eb"), looks := false }, kinds := [], alts := [], laidByText := true, laidKinds := [.data, .data], laidTests := true, laidLooks := .later }
def ArmWeakerUptoCardSaid : Prop := Claim7.holds Tryz.pinned (.plain (OpenSpec.upto armWeakerSpec)) armWeakerUptoCard

/-- THE SECOND FORM's CARD OF 'sextantlaw11.ArmLaws'. -/
def armLawsUptoCard : Claim7 := { stood := { row := armLawsUptoRow, standIns := [], harness := (true, "84b231d97cbdb698aff18bf82633d06d6d5e03f9f3e74df33b0aa95033a042eb"), looks := false }, kinds := [], alts := [], laidByText := true, laidKinds := [.data, .data], laidTests := true, laidLooks := .later }
def ArmLawsUptoCardSaid : Prop := Claim7.holds Tryz.pinned (.plain (OpenSpec.upto armLawsSpec)) armLawsUptoCard

/-- THE SECOND FORM's CARD OF 'sextantlaw11.ArmListed'. -/
def armListedUptoCard : Claim7 := { stood := { row := armListedUptoRow, standIns := [], harness := (true, "84b231d97cbdb698aff18bf82633d06d6d5e03f9f3e74df33b0aa95033a042eb"), looks := false }, kinds := [], alts := [], laidByText := true, laidKinds := [.data, .data], laidTests := true, laidLooks := .later }
def ArmListedUptoCardSaid : Prop := Claim7.holds Tryz.pinned (.plain (OpenSpec.upto armListedSpec)) armListedUptoCard
end Rows
end Go.Proofs.YtdkogbfamdnheaaGreatDoor
