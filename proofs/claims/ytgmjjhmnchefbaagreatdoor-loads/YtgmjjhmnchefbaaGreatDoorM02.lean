/- C4s Shelf2, one behind the other. -/
import Derived.Test.YtgmjjhmnchefbaaGreatDoorM01
import Derived.Shelf.Strings.OnBuilder
import Derived.Test.YtgmjjhmnchefbaaGreatDoorProg
set_option linter.unusedVariables false
set_option linter.unusedSimpArgs false
/- Contracts of slices.Delete, Insert and Clone at series. -/
namespace Go.Proofs.YtgmjjhmnchefbaaGreatDoor
open Go.RowKit

end Go.Proofs.YtgmjjhmnchefbaaGreatDoor

/- The library's strings.Join at this program, in plain words (laid by the kit's command; numbers of seat ab). -/
namespace Go.Proofs
open Go.Shelf
end Go.Proofs
