/-
  DERIVED. GIVEN WITH THE SEED: THE CARDS: each row of YthnhacncnhknnaaDoorRows.lean that lists a variable, with what it lists TIED to the program's text (the seventh form; the later family's looks); each row that meets fmt, with fmt's text TOLD by the authors' own Lean function (tested against real Go, not proved from fmt's source: count such statements apart). THE CARD IS WHAT COUNTS. Prove the row's statement (the work); the ties are given (YthnhacncnhknnaaDoorTie.lean); close each card by the builder's one call (the guide's Derived/Test/ToyasCard.lean, 'card_holds'). Laid BY PROGRAM, IN A SANDBOX (cutbox-door.mjs). By AI agents, Wed Nov 11 2026. No macro, syntax, notation, axiom, sorry.
-/
import Derived.Test.YthnhacncnhknnaaDoorRows
import GoSem.ClaimSeven
namespace Go.Proofs.YthnhacncnhknnaaDoor
namespace Rows

/-- THE TIED CARD OF 'scarfjointlaw07.SubgraphClose'. -/
def subgraphCloseCard : Claim7 := { stood := { row := subgraphCloseRow, standIns := [], harness := (true, "d40fe502c7eb20a2fb0b35b81948407b17b2b9d14f2ae580415a3ab91d0055d3"), looks := false }, kinds := [], alts := [], laidByText := true, laidKinds := [.data, .data], laidTests := true, laidLooks := .later }
def SubgraphCloseCardSaid : Prop := Claim7.holds Tryd.pinned (.plain (OpenSpec.ofChange subgraphCloseSpec)) subgraphCloseCard

/-- THE TIED CARD OF 'scarfjointlaw07.SubgraphJoin'. -/
def subgraphJoinCard : Claim7 := { stood := { row := subgraphJoinRow, standIns := [], harness := (true, "d40fe502c7eb20a2fb0b35b81948407b17b2b9d14f2ae580415a3ab91d0055d3"), looks := false }, kinds := [], alts := [], laidByText := true, laidKinds := [.data, .data], laidTests := true, laidLooks := .later }
def SubgraphJoinCardSaid : Prop := Claim7.holds Tryd.pinned (.plain (OpenSpec.ofChange subgraphJoinSpec)) subgraphJoinCard

/-- THE TIED CARD OF 'scarfjointlaw07.SubgraphImage'. -/
def subgraphImageCard : Claim7 := { stood := { row := subgraphImageRow, standIns := [], harness := (true, "d40fe502c7eb20a2fb0b35b81948407b17b2b9d14f2ae580415a3ab91d0055d3"), looks := false }, kinds := [], alts := [], laidByText := true, laidKinds := [.data, .data], laidTests := true, laidLooks := .later }
def SubgraphImageCardSaid : Prop := Claim7.holds Tryd.pinned (.plain (OpenSpec.ofChange subgraphImageSpec)) subgraphImageCard

/-- THE TIED CARD OF 'scarfjointlaw07.SubgraphAdjoint'. -/
def subgraphAdjointCard : Claim7 := { stood := { row := subgraphAdjointRow, standIns := [], harness := (true, "d40fe502c7eb20a2fb0b35b81948407b17b2b9d14f2ae580415a3ab91d0055d3"), looks := false }, kinds := [], alts := [], laidByText := true, laidKinds := [.data, .data], laidTests := true, laidLooks := .later }
def SubgraphAdjointCardSaid : Prop := Claim7.holds Tryd.pinned (.plain (OpenSpec.ofChange subgraphAdjointSpec)) subgraphAdjointCard

/-- THE TIED CARD OF 'scarfjointlaw07.SubgraphExtract'. -/
def subgraphExtractCard : Claim7 := { stood := { row := subgraphExtractRow, standIns := [], harness := (true, "d40fe502c7eb20a2fb0b35b81948407b17b2b9d14f2ae580415a3ab91d0055d3"), looks := false }, kinds := [], alts := [], laidByText := true, laidKinds := [.data, .data], laidTests := true, laidLooks := .later }
def SubgraphExtractCardSaid : Prop := Claim7.holds Tryd.pinned (.plain (OpenSpec.ofChange subgraphExtractSpec)) subgraphExtractCard

/-- THE TIED CARD OF 'scarfjointlaw07.SubgraphBoundary'. -/
def subgraphBoundaryCard : Claim7 := { stood := { row := subgraphBoundaryRow, standIns := [], harness := (true, "d40fe502c7eb20a2fb0b35b81948407b17b2b9d14f2ae580415a3ab91d0055d3"), looks := false }, kinds := [], alts := [], laidByText := true, laidKinds := [.data, .data], laidTests := true, laidLooks := .later }
def SubgraphBoundaryCardSaid : Prop := Claim7.holds Tryd.pinned (.plain (OpenSpec.ofChange subgraphBoundarySpec)) subgraphBoundaryCard

/-- THE TIED CARD OF 'scarfjointlaw07.SubgraphAll'. -/
def subgraphAllCard : Claim7 := { stood := { row := subgraphAllRow, standIns := [], harness := (true, "d40fe502c7eb20a2fb0b35b81948407b17b2b9d14f2ae580415a3ab91d0055d3"), looks := false }, kinds := [], alts := [], laidByText := true, laidKinds := [.data, .data], laidTests := true, laidLooks := .later }
def SubgraphAllCardSaid : Prop := Claim7.holds Tryd.pinned (.plain (OpenSpec.ofChange subgraphAllSpec)) subgraphAllCard

/-- THE SECOND FORM's CARD OF 'scarfjointlaw07.SubgraphClose'. -/
def subgraphCloseUptoCard : Claim7 := { stood := { row := subgraphCloseUptoRow, standIns := [], harness := (true, "d40fe502c7eb20a2fb0b35b81948407b17b2b9d14f2ae580415a3ab91d0055d3"), looks := false }, kinds := [], alts := [], laidByText := true, laidKinds := [.data, .data], laidTests := true, laidLooks := .later }
def SubgraphCloseUptoCardSaid : Prop := Claim7.holds Tryd.pinned (.plain (OpenSpec.upto subgraphCloseSpec)) subgraphCloseUptoCard

/-- THE SECOND FORM's CARD OF 'scarfjointlaw07.SubgraphJoin'. -/
def subgraphJoinUptoCard : Claim7 := { stood := { row := subgraphJoinUptoRow, standIns := [], harness := (true, "d40fe502c7eb20a2fb0b35b81948407b17b2b9d14f2ae580415a3ab91d0055d3"), looks := false }, kinds := [], alts := [], laidByText := true, laidKinds := [.data, .data], laidTests := true, laidLooks := .later }
def SubgraphJoinUptoCardSaid : Prop := Claim7.holds Tryd.pinned (.plain (OpenSpec.upto subgraphJoinSpec)) subgraphJoinUptoCard

/-- THE SECOND FORM's CARD OF 'scarfjointlaw07.SubgraphImage'. -/
def subgraphImageUptoCard : Claim7 := { stood := { row := subgraphImageUptoRow, standIns := [], harness := (true, "d40fe502c7eb20a2fb0b35b81948407b17b2b9d14f2ae580415a3ab91d0055d3"), looks := false }, kinds := [], alts := [], laidByText := true, laidKinds := [.data, .data], laidTests := true, laidLooks := .later }
def SubgraphImageUptoCardSaid : Prop := Claim7.holds Tryd.pinned (.plain (OpenSpec.upto subgraphImageSpec)) subgraphImageUptoCard

/-- THE SECOND FORM's CARD OF 'scarfjointlaw07.SubgraphAdjoint'. -/
def subgraphAdjointUptoCard : Claim7 := { stood := { row := subgraphAdjointUptoRow, standIns := [], harness := (true, "d40fe502c7eb20a2fb0b35b81948407b17b2b9d14f2ae580415a3ab91d0055d3"), looks := false }, kinds := [], alts := [], laidByText := true, laidKinds := [.data, .data], laidTests := true, laidLooks := .later }
def SubgraphAdjointUptoCardSaid : Prop := Claim7.holds Tryd.pinned (.plain (OpenSpec.upto subgraphAdjointSpec)) subgraphAdjointUptoCard

/-- THE SECOND FORM's CARD OF 'scarfjointlaw07.SubgraphExtract'. -/
def subgraphExtractUptoCard : Claim7 := { stood := { row := subgraphExtractUptoRow, standIns := [], harness := (true, "d40fe502c7eb20a2fb0b35b81948407b17b2b9d14f2ae580415a3ab91d0055d3"), looks := false }, kinds := [], alts := [], laidByText := true, laidKinds := [.data, .data], laidTests := true, laidLooks := .later }
def SubgraphExtractUptoCardSaid : Prop := Claim7.holds Tryd.pinned (.plain (OpenSpec.upto subgraphExtractSpec)) subgraphExtractUptoCard

/-- THE SECOND FORM's CARD OF 'scarfjointlaw07.SubgraphBoundary'. -/
def subgraphBoundaryUptoCard : Claim7 := { stood := { row := subgraphBoundaryUptoRow, standIns := [], harness := (true, "d40fe502c7eb20a2fb0b35b81948407b17b2b9d14f2ae580415a3ab91d0055d3"), looks := false }, kinds := [], alts := [], laidByText := true, laidKinds := [.data, .data], laidTests := true, laidLooks := .later }
def SubgraphBoundaryUptoCardSaid : Prop := Claim7.holds Tryd.pinned (.plain (OpenSpec.upto subgraphBoundarySpec)) subgraphBoundaryUptoCard

/-- THE SECOND FORM's CARD OF 'scarfjointlaw07.SubgraphAll'. -/
def subgraphAllUptoCard : Claim7 := { stood := { row := subgraphAllUptoRow, standIns := [], harness := (true, "d40fe502c7eb20a2fb0b35b81948407b17b2b9d14f2ae580415a3ab91d0055d3"), looks := false }, kinds := [], alts := [], laidByText := true, laidKinds := [.data, .data], laidTests := true, laidLooks := .later }
def SubgraphAllUptoCardSaid : Prop := Claim7.holds Tryd.pinned (.plain (OpenSpec.upto subgraphAllSpec)) subgraphAllUptoCard
end Rows
end Go.Proofs.YthnhacncnhknnaaDoor
