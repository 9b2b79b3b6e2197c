/-
  DERIVED. GIVEN WITH THE SEED: THE CARDS: each row of YthiijcappjaagaaGreatDoorRows.lean that lists a variable, with what it lists TIED to the program's text (the seventh form; the later family's looks); each row that meets fmt, with fmt's text TOLD by the authors' own Lean function (tested against real Go, not proved from fmt's source: count such statements apart). THE CARD IS WHAT COUNTS. Prove the row's statement (the work); the ties are given (YthiijcappjaagaaGreatDoorTie.lean); close each card by the builder's one call (the guide's Derived/Test/ToyasCard.lean, 'card_holds'). Laid BY PROGRAM, IN A SANDBOX (cutbox-door.mjs). By AI agents, Wed Nov 11 2026. No macro, syntax, notation, axiom, sorry.
-/
import Derived.Test.YthiijcappjaagaaGreatDoorRows
import GoSem.ClaimSeven
namespace Go.Proofs.YthiijcappjaagaaGreatDoor
namespace Rows

/-- THE TIED CARD OF 'sextantlaw8.GraphChecks'. -/
def graphChecksCard : Claim7 := { stood := { row := graphChecksRow, standIns := [], harness := (true, "15e78049231f6b2b62131842eec3693a589cb47d727c83ebe6bab54c2106cade"), looks := false }, kinds := [], alts := [], laidByText := true, laidKinds := [.data, .data], laidTests := true, laidLooks := .later }
def GraphChecksCardSaid : Prop := Claim7.holds Tryz.pinned (.plain (OpenSpec.ofChange graphChecksSpec)) graphChecksCard

/-- THE TIED CARD OF 'sextantlaw8.GraphDerives'. -/
def graphDerivesCard : Claim7 := { stood := { row := graphDerivesRow, standIns := [], harness := (true, "15e78049231f6b2b62131842eec3693a589cb47d727c83ebe6bab54c2106cade"), looks := false }, kinds := [], alts := [], laidByText := true, laidKinds := [.data, .data], laidTests := true, laidLooks := .later }
def GraphDerivesCardSaid : Prop := Claim7.holds Tryz.pinned (.plain (OpenSpec.ofChange graphDerivesSpec)) graphDerivesCard

/-- THE TIED CARD OF 'sextantlaw8.GraphSees'. -/
def graphSeesCard : Claim7 := { stood := { row := graphSeesRow, standIns := [], harness := (true, "15e78049231f6b2b62131842eec3693a589cb47d727c83ebe6bab54c2106cade"), looks := false }, kinds := [], alts := [], laidByText := true, laidKinds := [.data, .data], laidTests := true, laidLooks := .later }
def GraphSeesCardSaid : Prop := Claim7.holds Tryz.pinned (.plain (OpenSpec.ofChange graphSeesSpec)) graphSeesCard

/-- THE TIED CARD OF 'sextantlaw8.GraphLaws'. -/
def graphLawsCard : Claim7 := { stood := { row := graphLawsRow, standIns := [], harness := (true, "15e78049231f6b2b62131842eec3693a589cb47d727c83ebe6bab54c2106cade"), looks := false }, kinds := [], alts := [], laidByText := true, laidKinds := [.data, .data], laidTests := true, laidLooks := .later }
def GraphLawsCardSaid : Prop := Claim7.holds Tryz.pinned (.plain (OpenSpec.ofChange graphLawsSpec)) graphLawsCard

/-- THE SECOND FORM's CARD OF 'sextantlaw8.GraphChecks'. -/
def graphChecksUptoCard : Claim7 := { stood := { row := graphChecksUptoRow, standIns := [], harness := (true, "15e78049231f6b2b62131842eec3693a589cb47d727c83ebe6bab54c2106cade"), looks := false }, kinds := [], alts := [], laidByText := true, laidKinds := [.data, .data], laidTests := true, laidLooks := .later }
def GraphChecksUptoCardSaid : Prop := Claim7.holds Tryz.pinned (.plain (OpenSpec.upto graphChecksSpec)) graphChecksUptoCard

/-- THE SECOND FORM's CARD OF 'sextantlaw8.GraphDerives'. -/
def graphDerivesUptoCard : Claim7 := { stood := { row := graphDerivesUptoRow, standIns := [], harness := (true, "15e78049231f6b2b62131842eec3693a589cb47d727c83ebe6bab54c2106cade"), looks := false }, kinds := [], alts := [], laidByText := true, laidKinds := [.data, .data], laidTests := true, laidLooks := .later }
def GraphDerivesUptoCardSaid : Prop := Claim7.holds Tryz.pinned (.plain (OpenSpec.upto graphDerivesSpec)) graphDerivesUptoCard

/-- THE SECOND FORM's CARD OF 'sextantlaw8.GraphSees'. -/
def graphSeesUptoCard : Claim7 := { stood := { row := graphSeesUptoRow, standIns := [], harness := (true, "15e78049231f6b2b62131842eec3693a589cb47d727c83ebe6bab54c2106cade"), looks := false }, kinds := [], alts := [], laidByText := true, laidKinds := [.data, .data], laidTests := true, laidLooks := .later }
def GraphSeesUptoCardSaid : Prop := Claim7.holds Tryz.pinned (.plain (OpenSpec.upto graphSeesSpec)) graphSeesUptoCard

/-- THE SECOND FORM's CARD OF 'sextantlaw8.GraphLaws'. -/
def graphLawsUptoCard : Claim7 := { stood := { row := graphLawsUptoRow, standIns := [], harness := (true, "15e78049231f6b2b62131842eec3693a589cb47d727c83ebe6bab54c2106cade"), looks := false }, kinds := [], alts := [], laidByText := true, laidKinds := [.data, .data], laidTests := true, laidLooks := .later }
def GraphLawsUptoCardSaid : Prop := Claim7.holds Tryz.pinned (.plain (OpenSpec.upto graphLawsSpec)) graphLawsUptoCard
end Rows
end Go.Proofs.YthiijcappjaagaaGreatDoor
