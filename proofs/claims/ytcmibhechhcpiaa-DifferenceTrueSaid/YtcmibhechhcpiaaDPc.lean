/-
  Difference: what the laws ask of the program's functions.
-/
import Derived.Test.YtcmibhechhcpiaaDUni
namespace Go.Proofs.Ytcmibhechhcpiaa
open Go.RowKit

structure PC : Prop where
  val : ValC 16
  sol : SolC 13
  ref : RefC 22
  chk : ChkC 25
  hol : HolC 21
  imp : ImpC 32
  red : RedC 34

end Go.Proofs.Ytcmibhechhcpiaa
