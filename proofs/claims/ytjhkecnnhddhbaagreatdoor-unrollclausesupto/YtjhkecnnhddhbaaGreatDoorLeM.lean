/- A searcher goes back to a level. -/
import Derived.Test.YtjhkecnnhddhbaaGreatDoorLcM
import Derived.Test.YtjhkecnnhddhbaaGreatDoorPga
namespace Go.Proofs.YtjhkecnnhddhbaaGreatDoor.Sr
open Go.RowKit Go.Maps Go.Proofs.YtjhkecnnhddhbaaGreatDoor.Pf
set_option maxRecDepth 100000
end Go.Proofs.YtjhkecnnhddhbaaGreatDoor.Sr

namespace Go.Proofs.YtjhkecnnhddhbaaGreatDoor.Sr
open Go.RowKit Go.Maps Go.Proofs.YtjhkecnnhddhbaaGreatDoor.Pf
set_option maxRecDepth 100000
end Go.Proofs.YtjhkecnnhddhbaaGreatDoor.Sr
