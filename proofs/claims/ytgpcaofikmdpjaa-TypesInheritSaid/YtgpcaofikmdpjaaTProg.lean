/-
  Types: what the landed program keeps.
-/
import Derived.Test.YtgpcaofikmdpjaaQJoin
import Derived.Test.YtgpcaofikmdpjaaQAttrs
import Derived.Test.YtgpcaofikmdpjaaText
import Derived.Test.YtgpcaofikmdpjaaRight
namespace Go.Proofs.Ytgpcaofikmdpjaa
open Go.RowKit

theorem nameP : NameC 60 := fun s w hs => by
  refine (isName_any s (by unfold maxLen; omega) w).mono ?_
  rintro e w' ⟨h, rfl⟩
  exact ⟨h, Below.refl _ _⟩
theorem nameR : NameC 55 := fun s w hs => refIsName_any s (by omega) w
theorem pc : TC := ⟨validP_any nameP, isP_any nameP, ancP_any nameP, belP_any nameP, attP_any nameP, fitsP_any nameP, meetP_any nameP, joinP_any nameP, nameR⟩

end Go.Proofs.Ytgpcaofikmdpjaa
