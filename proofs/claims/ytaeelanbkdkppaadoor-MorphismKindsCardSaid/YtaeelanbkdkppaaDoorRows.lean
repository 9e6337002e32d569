/-
  NARROWER THAN 'FOR EVERY INPUT', by the rows' own cells (each row's printed sentence says how): MorphismValid: laid · MorphismSame: laid · MorphismCompose: laid · MorphismInverse: laid · MorphismAll: laid · MorphismAssociative: laid · MorphismKinds: laid.
  DERIVED. THE GIVEN ROWS OF THIS SEAT. 7 by the template 'for every input the law returns true; each argument reads behind the call as it read before'; 0 by the template 'total and deterministic' (their statements: YtaeelanbkdkppaaDoorTotals.lean).
  GIVEN WITH THE SEED: the statements are not yours to turn. If you find one false, say at which input.
  Laid BY PROGRAM, IN A SANDBOX (cutbox-rows.mjs): the forced cells as the released guide's own fill.sh prints them over the translation 2e1f8c9abd253810… (all of the seat's roots in one cut). By AI agents, Wed Nov 11 2026. No macro, syntax, notation, axiom, sorry.
-/
import Derived.Test.YtaeelanbkdkppaaDoorChecked
import GoSem.Claim
import GoSem.ClaimJoined
import GoSem.ClaimMapViews
import Derived.JoinedTies
import Derived.KernelRfl
namespace Go.Proofs.YtaeelanbkdkppaaDoor
/- THE CELL 'sum', in the pinned program and in every row, IS THE sha256 OF THE DUMP (.gsa) THAT YtaeelanbkdkppaaDoorProg.lean LOADS. Nothing in Lean hashes anything: it is a label: what it is worth is what the hold of that sum in a sandbox is worth. -/
noncomputable def Tryd.pinned : Pinned := { name := "ytaeelanbkdkppaadoor", sum := "2e1f8c9abd2538103cc2b4e39e90db009649d2b9a3c98cab642baf25dcee06ff", checked := Tryd.checked }
namespace Rows
def none {H : Type} : Left H := { results := [], args := [] }

/- WHAT THE LISTED PACKAGE-LEVEL VARIABLES READ AS WHEN THE CALL BEGINS. Each datum BY PROGRAM (the guide's laid-datum.mjs) off the statement by which the dump's own 'gosem.cut.vars' lays the variable. In a bare row this is a premise. The card (YtaeelanbkdkppaaDoorCards.lean) ties it to the program's text. -/
def laid_math_bits_deBruijn64tab {H : Type} : DataW H := .agg [.lit (.int .u8 0), .lit (.int .u8 1), .lit (.int .u8 56), .lit (.int .u8 2), .lit (.int .u8 57), .lit (.int .u8 49), .lit (.int .u8 28), .lit (.int .u8 3), .lit (.int .u8 61), .lit (.int .u8 58), .lit (.int .u8 42), .lit (.int .u8 50), .lit (.int .u8 38), .lit (.int .u8 29), .lit (.int .u8 17), .lit (.int .u8 4), .lit (.int .u8 62), .lit (.int .u8 47), .lit (.int .u8 59), .lit (.int .u8 36), .lit (.int .u8 45), .lit (.int .u8 43), .lit (.int .u8 51), .lit (.int .u8 22), .lit (.int .u8 53), .lit (.int .u8 39), .lit (.int .u8 33), .lit (.int .u8 30), .lit (.int .u8 24), .lit (.int .u8 18), .lit (.int .u8 12), .lit (.int .u8 5), .lit (.int .u8 63), .lit (.int .u8 55), .lit (.int .u8 48), .lit (.int .u8 27), .lit (.int .u8 60), .lit (.int .u8 41), .lit (.int .u8 37), .lit (.int .u8 16), .lit (.int .u8 46), .lit (.int .u8 35), .lit (.int .u8 44), .lit (.int .u8 21), .lit (.int .u8 52), .lit (.int .u8 32), .lit (.int .u8 23), .lit (.int .u8 11), .lit (.int .u8 54), .lit (.int .u8 26), .lit (.int .u8 40), .lit (.int .u8 15), .lit (.int .u8 34), .lit (.int .u8 20), .lit (.int .u8 31), .lit (.int .u8 10), .lit (.int .u8 25), .lit (.int .u8 14), .lit (.int .u8 19), .lit (.int .u8 9), .lit (.int .u8 13), .lit (.int .u8 8), .lit (.int .u8 7), .lit (.int .u8 6)]

/-- 'scarfjointlaw06.MorphismValid': WHATEVER THE INPUT: true; the input reads as it did. -/
def morphismValidSpec : ChangeSpec := { name := "morphismValid", fn := fun _ => fun
  | [d1, d2] => { results := [.lit (.bool true)], args := [d1, d2] }
  | _ => none }
def morphismValidRow : OpenClaim := { program := "ytaeelanbkdkppaadoor", sum := "2e1f8c9abd2538103cc2b4e39e90db009649d2b9a3c98cab642baf25dcee06ff", func := "scarfjoint/scarfjointlaw06.MorphismValid", spec := "morphismValid", unfollowed := true, recurses := true, named := ["math/bits.deBruijn64tab"], apart := false, laid := [("math/bits.deBruijn64tab", laid_math_bits_deBruijn64tab)] }
def MorphismValidSaid : Prop := morphismValidRow.holds Tryd.pinned (OpenSpec.ofChange morphismValidSpec)

/-- ITS FALSE NEIGHBOUR: 'it returns false'. Refute it at one input. -/
def morphismValidWrong : ChangeSpec := { name := "morphismValid", fn := fun _ => fun
  | [d1, d2] => { results := [.lit (.bool false)], args := [d1, d2] }
  | _ => none }
def MorphismValidWrongFalsely : Prop := morphismValidRow.holds Tryd.pinned (OpenSpec.ofChange morphismValidWrong)

/-- 'scarfjointlaw06.MorphismSame': WHATEVER THE INPUT: true; the input reads as it did. -/
def morphismSameSpec : ChangeSpec := { name := "morphismSame", fn := fun _ => fun
  | [d1, d2, d3] => { results := [.lit (.bool true)], args := [d1, d2, d3] }
  | _ => none }
def morphismSameRow : OpenClaim := { program := "ytaeelanbkdkppaadoor", sum := "2e1f8c9abd2538103cc2b4e39e90db009649d2b9a3c98cab642baf25dcee06ff", func := "scarfjoint/scarfjointlaw06.MorphismSame", spec := "morphismSame", unfollowed := true, recurses := true, named := ["math/bits.deBruijn64tab"], apart := false, laid := [("math/bits.deBruijn64tab", laid_math_bits_deBruijn64tab)] }
def MorphismSameSaid : Prop := morphismSameRow.holds Tryd.pinned (OpenSpec.ofChange morphismSameSpec)

/-- ITS FALSE NEIGHBOUR: 'it returns false'. Refute it at one input. -/
def morphismSameWrong : ChangeSpec := { name := "morphismSame", fn := fun _ => fun
  | [d1, d2, d3] => { results := [.lit (.bool false)], args := [d1, d2, d3] }
  | _ => none }
def MorphismSameWrongFalsely : Prop := morphismSameRow.holds Tryd.pinned (OpenSpec.ofChange morphismSameWrong)

/-- 'scarfjointlaw06.MorphismCompose': WHATEVER THE INPUT: true; the input reads as it did. -/
def morphismComposeSpec : ChangeSpec := { name := "morphismCompose", fn := fun _ => fun
  | [d1, d2, d3] => { results := [.lit (.bool true)], args := [d1, d2, d3] }
  | _ => none }
def morphismComposeRow : OpenClaim := { program := "ytaeelanbkdkppaadoor", sum := "2e1f8c9abd2538103cc2b4e39e90db009649d2b9a3c98cab642baf25dcee06ff", func := "scarfjoint/scarfjointlaw06.MorphismCompose", spec := "morphismCompose", unfollowed := true, recurses := true, named := ["math/bits.deBruijn64tab"], apart := false, laid := [("math/bits.deBruijn64tab", laid_math_bits_deBruijn64tab)] }
def MorphismComposeSaid : Prop := morphismComposeRow.holds Tryd.pinned (OpenSpec.ofChange morphismComposeSpec)

/-- ITS FALSE NEIGHBOUR: 'it returns false'. Refute it at one input. -/
def morphismComposeWrong : ChangeSpec := { name := "morphismCompose", fn := fun _ => fun
  | [d1, d2, d3] => { results := [.lit (.bool false)], args := [d1, d2, d3] }
  | _ => none }
def MorphismComposeWrongFalsely : Prop := morphismComposeRow.holds Tryd.pinned (OpenSpec.ofChange morphismComposeWrong)

/-- 'scarfjointlaw06.MorphismInverse': WHATEVER THE INPUT: true; the input reads as it did. -/
def morphismInverseSpec : ChangeSpec := { name := "morphismInverse", fn := fun _ => fun
  | [d1, d2] => { results := [.lit (.bool true)], args := [d1, d2] }
  | _ => none }
def morphismInverseRow : OpenClaim := { program := "ytaeelanbkdkppaadoor", sum := "2e1f8c9abd2538103cc2b4e39e90db009649d2b9a3c98cab642baf25dcee06ff", func := "scarfjoint/scarfjointlaw06.MorphismInverse", spec := "morphismInverse", unfollowed := true, recurses := true, named := ["math/bits.deBruijn64tab"], apart := false, laid := [("math/bits.deBruijn64tab", laid_math_bits_deBruijn64tab)] }
def MorphismInverseSaid : Prop := morphismInverseRow.holds Tryd.pinned (OpenSpec.ofChange morphismInverseSpec)

/-- ITS FALSE NEIGHBOUR: 'it returns false'. Refute it at one input. -/
def morphismInverseWrong : ChangeSpec := { name := "morphismInverse", fn := fun _ => fun
  | [d1, d2] => { results := [.lit (.bool false)], args := [d1, d2] }
  | _ => none }
def MorphismInverseWrongFalsely : Prop := morphismInverseRow.holds Tryd.pinned (OpenSpec.ofChange morphismInverseWrong)

/-- 'scarfjointlaw06.MorphismAll': WHATEVER THE INPUT: true; the input reads as it did. -/
def morphismAllSpec : ChangeSpec := { name := "morphismAll", fn := fun _ => fun
  | [d1, d2] => { results := [.lit (.bool true)], args := [d1, d2] }
  | _ => none }
def morphismAllRow : OpenClaim := { program := "ytaeelanbkdkppaadoor", sum := "2e1f8c9abd2538103cc2b4e39e90db009649d2b9a3c98cab642baf25dcee06ff", func := "scarfjoint/scarfjointlaw06.MorphismAll", spec := "morphismAll", unfollowed := true, recurses := true, named := ["math/bits.deBruijn64tab"], apart := false, laid := [("math/bits.deBruijn64tab", laid_math_bits_deBruijn64tab)] }
def MorphismAllSaid : Prop := morphismAllRow.holds Tryd.pinned (OpenSpec.ofChange morphismAllSpec)

/-- ITS FALSE NEIGHBOUR: 'it returns false'. Refute it at one input. -/
def morphismAllWrong : ChangeSpec := { name := "morphismAll", fn := fun _ => fun
  | [d1, d2] => { results := [.lit (.bool false)], args := [d1, d2] }
  | _ => none }
def MorphismAllWrongFalsely : Prop := morphismAllRow.holds Tryd.pinned (OpenSpec.ofChange morphismAllWrong)

/-- 'scarfjointlaw06.MorphismAssociative': WHATEVER THE INPUT: true; the input reads as it did. -/
def morphismAssociativeSpec : ChangeSpec := { name := "morphismAssociative", fn := fun _ => fun
  | [d1, d2, d3] => { results := [.lit (.bool true)], args := [d1, d2, d3] }
  | _ => none }
def morphismAssociativeRow : OpenClaim := { program := "ytaeelanbkdkppaadoor", sum := "2e1f8c9abd2538103cc2b4e39e90db009649d2b9a3c98cab642baf25dcee06ff", func := "scarfjoint/scarfjointlaw06.MorphismAssociative", spec := "morphismAssociative", unfollowed := true, recurses := true, named := ["math/bits.deBruijn64tab"], apart := false, laid := [("math/bits.deBruijn64tab", laid_math_bits_deBruijn64tab)] }
def MorphismAssociativeSaid : Prop := morphismAssociativeRow.holds Tryd.pinned (OpenSpec.ofChange morphismAssociativeSpec)

/-- ITS FALSE NEIGHBOUR: 'it returns false'. Refute it at one input. -/
def morphismAssociativeWrong : ChangeSpec := { name := "morphismAssociative", fn := fun _ => fun
  | [d1, d2, d3] => { results := [.lit (.bool false)], args := [d1, d2, d3] }
  | _ => none }
def MorphismAssociativeWrongFalsely : Prop := morphismAssociativeRow.holds Tryd.pinned (OpenSpec.ofChange morphismAssociativeWrong)

/-- 'scarfjointlaw06.MorphismKinds': WHATEVER THE INPUT: true; the input reads as it did. -/
def morphismKindsSpec : ChangeSpec := { name := "morphismKinds", fn := fun _ => fun
  | [d1, d2, d3] => { results := [.lit (.bool true)], args := [d1, d2, d3] }
  | _ => none }
def morphismKindsRow : OpenClaim := { program := "ytaeelanbkdkppaadoor", sum := "2e1f8c9abd2538103cc2b4e39e90db009649d2b9a3c98cab642baf25dcee06ff", func := "scarfjoint/scarfjointlaw06.MorphismKinds", spec := "morphismKinds", unfollowed := true, recurses := true, named := ["math/bits.deBruijn64tab"], apart := false, laid := [("math/bits.deBruijn64tab", laid_math_bits_deBruijn64tab)] }
def MorphismKindsSaid : Prop := morphismKindsRow.holds Tryd.pinned (OpenSpec.ofChange morphismKindsSpec)

/-- ITS FALSE NEIGHBOUR: 'it returns false'. Refute it at one input. -/
def morphismKindsWrong : ChangeSpec := { name := "morphismKinds", fn := fun _ => fun
  | [d1, d2, d3] => { results := [.lit (.bool false)], args := [d1, d2, d3] }
  | _ => none }
def MorphismKindsWrongFalsely : Prop := morphismKindsRow.holds Tryd.pinned (OpenSpec.ofChange morphismKindsWrong)

/- THE SECOND FORM. 'bulk': how many values and letters a reading holds, each counted each time it is reached (what is shared counts as often as it is met; a slice's spare places count too). A statement '..UptoSaid' is the law's where the arguments, and the package variables that the reading takes, are together of bulk at most 1048576: NARROWER than '..Said'. Prove '..Said' where nothing that the law and all that it calls make is longer than what came in: it says more and counts as full. Else prove '..UptoSaid'. A law counts once. -/
mutual
def uptoBulk {H : Type} : DataW H → Nat
  | .lit (.string bytes) => bytes.length + 1
  | .lit _ => 1
  | .nil => 1
  | .ptr d => uptoBulk d + 1
  | .slice elems spare => uptoBulkAll elems + uptoBulkAll spare + 1
  | .agg parts => uptoBulkAll parts + 1
  | .iface _ d => uptoBulk d + 1
  | .map entries => uptoBulkEntries entries + 1
  | .held _ => 1
def uptoBulkAll {H : Type} : List (DataW H) → Nat
  | [] => 0
  | d :: r => uptoBulk d + uptoBulkAll r
def uptoBulkEntries {H : Type} : List (Lit × DataW H) → Nat
  | [] => 0
  | x :: r => uptoBulkEntry x + uptoBulkEntries r
def uptoBulkEntry {H : Type} : Lit × DataW H → Nat
  | (.string bytes, d) => bytes.length + uptoBulk d + 1
  | (_, d) => uptoBulk d + 1
 end
def uptoSmall : (H : Type) → List (DataW H) → Bool := fun _ ds => decide (uptoBulkAll ds ≤ 1048576)
def OpenSpec.upto (s : _root_.Go.ChangeSpec) : _root_.Go.OpenSpec := { _root_.Go.OpenSpec.ofChange s with cond := some uptoSmall }

/-- 'scarfjointlaw06.MorphismValid', WHERE WHAT IT READS IS OF BULK AT MOST 1048576: true; the input reads as it did. -/
def morphismValidUptoRow : OpenClaim := { program := "ytaeelanbkdkppaadoor", sum := "2e1f8c9abd2538103cc2b4e39e90db009649d2b9a3c98cab642baf25dcee06ff", func := "scarfjoint/scarfjointlaw06.MorphismValid", spec := "morphismValid", unfollowed := true, recurses := true, named := ["math/bits.deBruijn64tab"], apart := false, laid := [("math/bits.deBruijn64tab", laid_math_bits_deBruijn64tab)], narrowed := true }
def MorphismValidUptoSaid : Prop := morphismValidUptoRow.holds Tryd.pinned (OpenSpec.upto morphismValidSpec)

/-- 'scarfjointlaw06.MorphismSame', WHERE WHAT IT READS IS OF BULK AT MOST 1048576: true; the input reads as it did. -/
def morphismSameUptoRow : OpenClaim := { program := "ytaeelanbkdkppaadoor", sum := "2e1f8c9abd2538103cc2b4e39e90db009649d2b9a3c98cab642baf25dcee06ff", func := "scarfjoint/scarfjointlaw06.MorphismSame", spec := "morphismSame", unfollowed := true, recurses := true, named := ["math/bits.deBruijn64tab"], apart := false, laid := [("math/bits.deBruijn64tab", laid_math_bits_deBruijn64tab)], narrowed := true }
def MorphismSameUptoSaid : Prop := morphismSameUptoRow.holds Tryd.pinned (OpenSpec.upto morphismSameSpec)

/-- 'scarfjointlaw06.MorphismCompose', WHERE WHAT IT READS IS OF BULK AT MOST 1048576: true; the input reads as it did. -/
def morphismComposeUptoRow : OpenClaim := { program := "ytaeelanbkdkppaadoor", sum := "2e1f8c9abd2538103cc2b4e39e90db009649d2b9a3c98cab642baf25dcee06ff", func := "scarfjoint/scarfjointlaw06.MorphismCompose", spec := "morphismCompose", unfollowed := true, recurses := true, named := ["math/bits.deBruijn64tab"], apart := false, laid := [("math/bits.deBruijn64tab", laid_math_bits_deBruijn64tab)], narrowed := true }
def MorphismComposeUptoSaid : Prop := morphismComposeUptoRow.holds Tryd.pinned (OpenSpec.upto morphismComposeSpec)

/-- 'scarfjointlaw06.MorphismInverse', WHERE WHAT IT READS IS OF BULK AT MOST 1048576: true; the input reads as it did. -/
def morphismInverseUptoRow : OpenClaim := { program := "ytaeelanbkdkppaadoor", sum := "2e1f8c9abd2538103cc2b4e39e90db009649d2b9a3c98cab642baf25dcee06ff", func := "scarfjoint/scarfjointlaw06.MorphismInverse", spec := "morphismInverse", unfollowed := true, recurses := true, named := ["math/bits.deBruijn64tab"], apart := false, laid := [("math/bits.deBruijn64tab", laid_math_bits_deBruijn64tab)], narrowed := true }
def MorphismInverseUptoSaid : Prop := morphismInverseUptoRow.holds Tryd.pinned (OpenSpec.upto morphismInverseSpec)

/-- 'scarfjointlaw06.MorphismAll', WHERE WHAT IT READS IS OF BULK AT MOST 1048576: true; the input reads as it did. -/
def morphismAllUptoRow : OpenClaim := { program := "ytaeelanbkdkppaadoor", sum := "2e1f8c9abd2538103cc2b4e39e90db009649d2b9a3c98cab642baf25dcee06ff", func := "scarfjoint/scarfjointlaw06.MorphismAll", spec := "morphismAll", unfollowed := true, recurses := true, named := ["math/bits.deBruijn64tab"], apart := false, laid := [("math/bits.deBruijn64tab", laid_math_bits_deBruijn64tab)], narrowed := true }
def MorphismAllUptoSaid : Prop := morphismAllUptoRow.holds Tryd.pinned (OpenSpec.upto morphismAllSpec)

/-- 'scarfjointlaw06.MorphismAssociative', WHERE WHAT IT READS IS OF BULK AT MOST 1048576: true; the input reads as it did. -/
def morphismAssociativeUptoRow : OpenClaim := { program := "ytaeelanbkdkppaadoor", sum := "2e1f8c9abd2538103cc2b4e39e90db009649d2b9a3c98cab642baf25dcee06ff", func := "scarfjoint/scarfjointlaw06.MorphismAssociative", spec := "morphismAssociative", unfollowed := true, recurses := true, named := ["math/bits.deBruijn64tab"], apart := false, laid := [("math/bits.deBruijn64tab", laid_math_bits_deBruijn64tab)], narrowed := true }
def MorphismAssociativeUptoSaid : Prop := morphismAssociativeUptoRow.holds Tryd.pinned (OpenSpec.upto morphismAssociativeSpec)

/-- 'scarfjointlaw06.MorphismKinds', WHERE WHAT IT READS IS OF BULK AT MOST 1048576: true; the input reads as it did. -/
def morphismKindsUptoRow : OpenClaim := { program := "ytaeelanbkdkppaadoor", sum := "2e1f8c9abd2538103cc2b4e39e90db009649d2b9a3c98cab642baf25dcee06ff", func := "scarfjoint/scarfjointlaw06.MorphismKinds", spec := "morphismKinds", unfollowed := true, recurses := true, named := ["math/bits.deBruijn64tab"], apart := false, laid := [("math/bits.deBruijn64tab", laid_math_bits_deBruijn64tab)], narrowed := true }
def MorphismKindsUptoSaid : Prop := morphismKindsUptoRow.holds Tryd.pinned (OpenSpec.upto morphismKindsSpec)

end Rows
end Go.Proofs.YtaeelanbkdkppaaDoor
