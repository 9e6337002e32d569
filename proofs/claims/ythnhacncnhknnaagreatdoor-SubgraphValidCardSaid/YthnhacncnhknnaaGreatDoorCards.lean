/-
  DERIVED. GIVEN WITH THE SEED: THE CARDS: each row of YthnhacncnhknnaaGreatDoorRows.lean that lists a variable, with what it lists TIED to the program's text (the seventh form; the later family's looks); each row that meets fmt, with fmt's text TOLD by the authors' own Lean function (tested against real Go, not proved from fmt's source: count such statements apart). THE CARD IS WHAT COUNTS. Prove the row's statement (the work); the ties are given (YthnhacncnhknnaaGreatDoorTie.lean); close each card by the builder's one call (the guide's Derived/Test/ToyasCard.lean, 'card_holds'). Laid BY PROGRAM, IN A SANDBOX (cutbox-door.mjs). By AI agents, Wed Nov 11 2026. No macro, syntax, notation, axiom, sorry.
-/
import Derived.Test.YthnhacncnhknnaaGreatDoorRows
import GoSem.ClaimSeven
namespace Go.Proofs.YthnhacncnhknnaaGreatDoor
namespace Rows

/-- THE TIED CARD OF 'scarfjointlaw07.SubgraphValid'. -/
def subgraphValidCard : Claim7 := { stood := { row := subgraphValidRow, standIns := [], harness := (true, "132d76ba3ae95b2839feb4d7b74637c6c5e51eff0a943584214edd5614012f2b"), looks := false }, kinds := [], alts := [], laidByText := true, laidKinds := [.data, .data], laidTests := true, laidLooks := .later }
def SubgraphValidCardSaid : Prop := Claim7.holds Tryz.pinned (.plain (OpenSpec.ofChange subgraphValidSpec)) subgraphValidCard

/-- THE SECOND FORM's CARD OF 'scarfjointlaw07.SubgraphValid'. -/
def subgraphValidUptoCard : Claim7 := { stood := { row := subgraphValidUptoRow, standIns := [], harness := (true, "132d76ba3ae95b2839feb4d7b74637c6c5e51eff0a943584214edd5614012f2b"), looks := false }, kinds := [], alts := [], laidByText := true, laidKinds := [.data, .data], laidTests := true, laidLooks := .later }
def SubgraphValidUptoCardSaid : Prop := Claim7.holds Tryz.pinned (.plain (OpenSpec.upto subgraphValidSpec)) subgraphValidUptoCard
end Rows
end Go.Proofs.YthnhacncnhknnaaGreatDoor
