/-
  DERIVED. GIVEN WITH THE SEED: THE CARDS: each row of YtaeelanbkdkppaaDoorRows.lean that lists a variable, with what it lists TIED to the program's text (the seventh form; the later family's looks); each row that meets fmt, with fmt's text TOLD by the authors' own Lean function (tested against real Go, not proved from fmt's source: count such statements apart). THE CARD IS WHAT COUNTS. Prove the row's statement (the work); the ties are given (YtaeelanbkdkppaaDoorTie.lean); close each card by the builder's one call (the guide's Derived/Test/ToyasCard.lean, 'card_holds'). Laid BY PROGRAM, IN A SANDBOX (cutbox-door.mjs). By AI agents, Wed Nov 11 2026. No macro, syntax, notation, axiom, sorry.
-/
import Derived.Test.YtaeelanbkdkppaaDoorRows
import GoSem.ClaimSeven
namespace Go.Proofs.YtaeelanbkdkppaaDoor
namespace Rows

/-- THE TIED CARD OF 'scarfjointlaw06.MorphismValid'. -/
def morphismValidCard : Claim7 := { stood := { row := morphismValidRow, standIns := [], harness := (true, "be0e74ecbec61e216f1dec99b2fe76d9649797ab71005ecd4978206190a01235"), looks := false }, kinds := [], alts := [], laidByText := true, laidKinds := [.data], laidTests := true, laidLooks := .later }
def MorphismValidCardSaid : Prop := Claim7.holds Tryd.pinned (.plain (OpenSpec.ofChange morphismValidSpec)) morphismValidCard

/-- THE TIED CARD OF 'scarfjointlaw06.MorphismSame'. -/
def morphismSameCard : Claim7 := { stood := { row := morphismSameRow, standIns := [], harness := (true, "be0e74ecbec61e216f1dec99b2fe76d9649797ab71005ecd4978206190a01235"), looks := false }, kinds := [], alts := [], laidByText := true, laidKinds := [.data], laidTests := true, laidLooks := .later }
def MorphismSameCardSaid : Prop := Claim7.holds Tryd.pinned (.plain (OpenSpec.ofChange morphismSameSpec)) morphismSameCard

/-- THE TIED CARD OF 'scarfjointlaw06.MorphismCompose'. -/
def morphismComposeCard : Claim7 := { stood := { row := morphismComposeRow, standIns := [], harness := (true, "be0e74ecbec61e216f1dec99b2fe76d9649797ab71005ecd4978206190a01235"), looks := false }, kinds := [], alts := [], laidByText := true, laidKinds := [.data], laidTests := true, laidLooks := .later }
def MorphismComposeCardSaid : Prop := Claim7.holds Tryd.pinned (.plain (OpenSpec.ofChange morphismComposeSpec)) morphismComposeCard

/-- THE TIED CARD OF 'scarfjointlaw06.MorphismInverse'. -/
def morphismInverseCard : Claim7 := { stood := { row := morphismInverseRow, standIns := [], harness := (true, "be0e74ecbec61e216f1dec99b2fe76d9649797ab71005ecd4978206190a01235"), looks := false }, kinds := [], alts := [], laidByText := true, laidKinds := [.data], laidTests := true, laidLooks := .later }
def MorphismInverseCardSaid : Prop := Claim7.holds Tryd.pinned (.plain (OpenSpec.ofChange morphismInverseSpec)) morphismInverseCard

/-- THE TIED CARD OF 'scarfjointlaw06.MorphismAll'. -/
def morphismAllCard : Claim7 := { stood := { row := morphismAllRow, standIns := [], harness := (true, "be0e74ecbec61e216f1dec99b2fe76d9649797ab71005ecd4978206190a01235"), looks := false }, kinds := [], alts := [], laidByText := true, laidKinds := [.data], laidTests := true, laidLooks := .later }
def MorphismAllCardSaid : Prop := Claim7.holds Tryd.pinned (.plain (OpenSpec.ofChange morphismAllSpec)) morphismAllCard

/-- THE TIED CARD OF 'scarfjointlaw06.MorphismAssociative'. -/
def morphismAssociativeCard : Claim7 := { stood := { row := morphismAssociativeRow, standIns := [], harness := (true, "be0e74ecbec61e216f1dec99b2fe76d9649797ab71005ecd4978206190a01235"), looks := false }, kinds := [], alts := [], laidByText := true, laidKinds := [.data], laidTests := true, laidLooks := .later }
def MorphismAssociativeCardSaid : Prop := Claim7.holds Tryd.pinned (.plain (OpenSpec.ofChange morphismAssociativeSpec)) morphismAssociativeCard

/-- THE TIED CARD OF 'scarfjointlaw06.MorphismKinds'. -/
def morphismKindsCard : Claim7 := { stood := { row := morphismKindsRow, standIns := [], harness := (true, "be0e74ecbec61e216f1dec99b2fe76d9649797ab71005ecd4978206190a01235"), looks := false }, kinds := [], alts := [], laidByText := true, laidKinds := [.data], laidTests := true, laidLooks := .later }
def MorphismKindsCardSaid : Prop := Claim7.holds Tryd.pinned (.plain (OpenSpec.ofChange morphismKindsSpec)) morphismKindsCard

/-- THE SECOND FORM's CARD OF 'scarfjointlaw06.MorphismValid'. -/
def morphismValidUptoCard : Claim7 := { stood := { row := morphismValidUptoRow, standIns := [], harness := (true, "be0e74ecbec61e216f1dec99b2fe76d9649797ab71005ecd4978206190a01235"), looks := false }, kinds := [], alts := [], laidByText := true, laidKinds := [.data], laidTests := true, laidLooks := .later }
def MorphismValidUptoCardSaid : Prop := Claim7.holds Tryd.pinned (.plain (OpenSpec.upto morphismValidSpec)) morphismValidUptoCard

/-- THE SECOND FORM's CARD OF 'scarfjointlaw06.MorphismSame'. -/
def morphismSameUptoCard : Claim7 := { stood := { row := morphismSameUptoRow, standIns := [], harness := (true, "be0e74ecbec61e216f1dec99b2fe76d9649797ab71005ecd4978206190a01235"), looks := false }, kinds := [], alts := [], laidByText := true, laidKinds := [.data], laidTests := true, laidLooks := .later }
def MorphismSameUptoCardSaid : Prop := Claim7.holds Tryd.pinned (.plain (OpenSpec.upto morphismSameSpec)) morphismSameUptoCard

/-- THE SECOND FORM's CARD OF 'scarfjointlaw06.MorphismCompose'. -/
def morphismComposeUptoCard : Claim7 := { stood := { row := morphismComposeUptoRow, standIns := [], harness := (true, "be0e74ecbec61e216f1dec99b2fe76d9649797ab71005ecd4978206190a01235"), looks := false }, kinds := [], alts := [], laidByText := true, laidKinds := [.data], laidTests := true, laidLooks := .later }
def MorphismComposeUptoCardSaid : Prop := Claim7.holds Tryd.pinned (.plain (OpenSpec.upto morphismComposeSpec)) morphismComposeUptoCard

/-- THE SECOND FORM's CARD OF 'scarfjointlaw06.MorphismInverse'. -/
def morphismInverseUptoCard : Claim7 := { stood := { row := morphismInverseUptoRow, standIns := [], harness := (true, "be0e74ecbec61e216f1dec99b2fe76d9649797ab71005ecd4978206190a01235"), looks := false }, kinds := [], alts := [], laidByText := true, laidKinds := [.data], laidTests := true, laidLooks := .later }
def MorphismInverseUptoCardSaid : Prop := Claim7.holds Tryd.pinned (.plain (OpenSpec.upto morphismInverseSpec)) morphismInverseUptoCard

/-- THE SECOND FORM's CARD OF 'scarfjointlaw06.MorphismAll'. -/
def morphismAllUptoCard : Claim7 := { stood := { row := morphismAllUptoRow, standIns := [], harness := (true, "be0e74ecbec61e216f1dec99b2fe76d9649797ab71005ecd4978206190a01235"), looks := false }, kinds := [], alts := [], laidByText := true, laidKinds := [.data], laidTests := true, laidLooks := .later }
def MorphismAllUptoCardSaid : Prop := Claim7.holds Tryd.pinned (.plain (OpenSpec.upto morphismAllSpec)) morphismAllUptoCard

/-- THE SECOND FORM's CARD OF 'scarfjointlaw06.MorphismAssociative'. -/
def morphismAssociativeUptoCard : Claim7 := { stood := { row := morphismAssociativeUptoRow, standIns := [], harness := (true, "be0e74ecbec61e216f1dec99b2fe76d9649797ab71005ecd4978206190a01235"), looks := false }, kinds := [], alts := [], laidByText := true, laidKinds := [.data], laidTests := true, laidLooks := .later }
def MorphismAssociativeUptoCardSaid : Prop := Claim7.holds Tryd.pinned (.plain (OpenSpec.upto morphismAssociativeSpec)) morphismAssociativeUptoCard

/-- THE SECOND FORM's CARD OF 'scarfjointlaw06.MorphismKinds'. -/
def morphismKindsUptoCard : Claim7 := { stood := { row := morphismKindsUptoRow, standIns := [], harness := (true, "be0e74ecbec61e216f1dec99b2fe76d9649797ab71005ecd4978206190a01235"), looks := false }, kinds := [], alts := [], laidByText := true, laidKinds := [.data], laidTests := true, laidLooks := .later }
def MorphismKindsUptoCardSaid : Prop := Claim7.holds Tryd.pinned (.plain (OpenSpec.upto morphismKindsSpec)) morphismKindsUptoCard
end Rows
end Go.Proofs.YtaeelanbkdkppaaDoor
