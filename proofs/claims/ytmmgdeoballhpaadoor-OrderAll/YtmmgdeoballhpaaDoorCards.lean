/-
  DERIVED. GIVEN WITH THE SEED: THE CARDS: each row of YtmmgdeoballhpaaDoorRows.lean that lists a variable, with what it lists TIED to the program's text (the seventh form; the later family's looks); each row that meets fmt, with fmt's text TOLD by the authors' own Lean function (tested against real Go, not proved from fmt's source: count such statements apart). THE CARD IS WHAT COUNTS. Prove the row's statement (the work); the ties are given (YtmmgdeoballhpaaDoorTie.lean); close each card by the builder's one call (the guide's Derived/Test/ToyasCard.lean, 'card_holds'). Laid BY PROGRAM, IN A SANDBOX (cutbox-door.mjs). By AI agents, Wed Nov 11 2026. No macro, syntax, notation, axiom, sorry.
-/
import Derived.Test.YtmmgdeoballhpaaDoorRows
import GoSem.ClaimSeven
namespace Go.Proofs.YtmmgdeoballhpaaDoor
namespace Rows

/-- THE TIED CARD OF 'sextantlaw2.OrderKnown'. -/
def orderKnownCard : Claim7 := { stood := { row := orderKnownRow, standIns := [], harness := (true, "03e48d648236a5706656a64a97beb5fb362bb36ccb0737ea715ca16f6d038f84"), looks := false }, kinds := [], alts := [], laidByText := true, laidKinds := [.data], laidTests := true, laidLooks := .later }
def OrderKnownCardSaid : Prop := Claim7.holds Tryd.pinned (.plain (OpenSpec.ofChange orderKnownSpec)) orderKnownCard

/-- THE TIED CARD OF 'sextantlaw2.OrderSorts'. -/
def orderSortsCard : Claim7 := { stood := { row := orderSortsRow, standIns := [], harness := (true, "03e48d648236a5706656a64a97beb5fb362bb36ccb0737ea715ca16f6d038f84"), looks := false }, kinds := [], alts := [], laidByText := true, laidKinds := [.data], laidTests := true, laidLooks := .later }
def OrderSortsCardSaid : Prop := Claim7.holds Tryd.pinned (.plain (OpenSpec.ofChange orderSortsSpec)) orderSortsCard

/-- THE TIED CARD OF 'sextantlaw2.OrderExtends'. -/
def orderExtendsCard : Claim7 := { stood := { row := orderExtendsRow, standIns := [], harness := (true, "03e48d648236a5706656a64a97beb5fb362bb36ccb0737ea715ca16f6d038f84"), looks := false }, kinds := [], alts := [], laidByText := true, laidKinds := [.data], laidTests := true, laidLooks := .later }
def OrderExtendsCardSaid : Prop := Claim7.holds Tryd.pinned (.plain (OpenSpec.ofChange orderExtendsSpec)) orderExtendsCard

/-- THE TIED CARD OF 'sextantlaw2.OrderParts'. -/
def orderPartsCard : Claim7 := { stood := { row := orderPartsRow, standIns := [], harness := (true, "03e48d648236a5706656a64a97beb5fb362bb36ccb0737ea715ca16f6d038f84"), looks := false }, kinds := [], alts := [], laidByText := true, laidKinds := [.data], laidTests := true, laidLooks := .later }
def OrderPartsCardSaid : Prop := Claim7.holds Tryd.pinned (.plain (OpenSpec.ofChange orderPartsSpec)) orderPartsCard

/-- THE TIED CARD OF 'sextantlaw2.OrderGlues'. -/
def orderGluesCard : Claim7 := { stood := { row := orderGluesRow, standIns := [], harness := (true, "03e48d648236a5706656a64a97beb5fb362bb36ccb0737ea715ca16f6d038f84"), looks := false }, kinds := [], alts := [], laidByText := true, laidKinds := [.data], laidTests := true, laidLooks := .later }
def OrderGluesCardSaid : Prop := Claim7.holds Tryd.pinned (.plain (OpenSpec.ofChange orderGluesSpec)) orderGluesCard

/-- THE TIED CARD OF 'sextantlaw2.OrderAll'. -/
def orderAllCard : Claim7 := { stood := { row := orderAllRow, standIns := [], harness := (true, "03e48d648236a5706656a64a97beb5fb362bb36ccb0737ea715ca16f6d038f84"), looks := false }, kinds := [], alts := [], laidByText := true, laidKinds := [.data], laidTests := true, laidLooks := .later }
def OrderAllCardSaid : Prop := Claim7.holds Tryd.pinned (.plain (OpenSpec.ofChange orderAllSpec)) orderAllCard

/-- THE SECOND FORM's CARD OF 'sextantlaw2.OrderKnown'. -/
def orderKnownUptoCard : Claim7 := { stood := { row := orderKnownUptoRow, standIns := [], harness := (true, "03e48d648236a5706656a64a97beb5fb362bb36ccb0737ea715ca16f6d038f84"), looks := false }, kinds := [], alts := [], laidByText := true, laidKinds := [.data], laidTests := true, laidLooks := .later }
def OrderKnownUptoCardSaid : Prop := Claim7.holds Tryd.pinned (.plain (OpenSpec.upto orderKnownSpec)) orderKnownUptoCard

/-- THE SECOND FORM's CARD OF 'sextantlaw2.OrderSorts'. -/
def orderSortsUptoCard : Claim7 := { stood := { row := orderSortsUptoRow, standIns := [], harness := (true, "03e48d648236a5706656a64a97beb5fb362bb36ccb0737ea715ca16f6d038f84"), looks := false }, kinds := [], alts := [], laidByText := true, laidKinds := [.data], laidTests := true, laidLooks := .later }
def OrderSortsUptoCardSaid : Prop := Claim7.holds Tryd.pinned (.plain (OpenSpec.upto orderSortsSpec)) orderSortsUptoCard

/-- THE SECOND FORM's CARD OF 'sextantlaw2.OrderExtends'. -/
def orderExtendsUptoCard : Claim7 := { stood := { row := orderExtendsUptoRow, standIns := [], harness := (true, "03e48d648236a5706656a64a97beb5fb362bb36ccb0737ea715ca16f6d038f84"), looks := false }, kinds := [], alts := [], laidByText := true, laidKinds := [.data], laidTests := true, laidLooks := .later }
def OrderExtendsUptoCardSaid : Prop := Claim7.holds Tryd.pinned (.plain (OpenSpec.upto orderExtendsSpec)) orderExtendsUptoCard

/-- THE SECOND FORM's CARD OF 'sextantlaw2.OrderParts'. -/
def orderPartsUptoCard : Claim7 := { stood := { row := orderPartsUptoRow, standIns := [], harness := (true, "03e48d648236a5706656a64a97beb5fb362bb36ccb0737ea715ca16f6d038f84"), looks := false }, kinds := [], alts := [], laidByText := true, laidKinds := [.data], laidTests := true, laidLooks := .later }
def OrderPartsUptoCardSaid : Prop := Claim7.holds Tryd.pinned (.plain (OpenSpec.upto orderPartsSpec)) orderPartsUptoCard

/-- THE SECOND FORM's CARD OF 'sextantlaw2.OrderGlues'. -/
def orderGluesUptoCard : Claim7 := { stood := { row := orderGluesUptoRow, standIns := [], harness := (true, "03e48d648236a5706656a64a97beb5fb362bb36ccb0737ea715ca16f6d038f84"), looks := false }, kinds := [], alts := [], laidByText := true, laidKinds := [.data], laidTests := true, laidLooks := .later }
def OrderGluesUptoCardSaid : Prop := Claim7.holds Tryd.pinned (.plain (OpenSpec.upto orderGluesSpec)) orderGluesUptoCard

/-- THE SECOND FORM's CARD OF 'sextantlaw2.OrderAll'. -/
def orderAllUptoCard : Claim7 := { stood := { row := orderAllUptoRow, standIns := [], harness := (true, "03e48d648236a5706656a64a97beb5fb362bb36ccb0737ea715ca16f6d038f84"), looks := false }, kinds := [], alts := [], laidByText := true, laidKinds := [.data], laidTests := true, laidLooks := .later }
def OrderAllUptoCardSaid : Prop := Claim7.holds Tryd.pinned (.plain (OpenSpec.upto orderAllSpec)) orderAllUptoCard
end Rows
end Go.Proofs.YtmmgdeoballhpaaDoor
