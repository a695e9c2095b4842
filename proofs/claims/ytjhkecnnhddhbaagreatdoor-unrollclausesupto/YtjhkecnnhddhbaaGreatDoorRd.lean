/- The plain text's Made, where all is right. -/
import Derived.Test.YtjhkecnnhddhbaaGreatDoorRc
import Derived.Test.YtjhkecnnhddhbaaGreatDoorXa
namespace Go.Proofs.YtjhkecnnhddhbaaGreatDoor.Ev
open Go.RowKit
set_option maxRecDepth 100000
set_option maxRecDepth 100000


end Go.Proofs.YtjhkecnnhddhbaaGreatDoor.Ev
