/- The plain text: a node is checked. -/
import Derived.Test.YtjhkecnnhddhbaaGreatDoorMn
namespace Go.Proofs.YtjhkecnnhddhbaaGreatDoor.Ev
open Go.RowKit
set_option maxRecDepth 100000
set_option maxRecDepth 100000

end Go.Proofs.YtjhkecnnhddhbaaGreatDoor.Ev
