/- A board is taken back to a level. -/
import Derived.Test.YtmambfdimeeijaaGreatDoorUhM
namespace Go.Proofs.YtmambfdimeeijaaGreatDoor.Pf
open Go.RowKit Go.Maps Go.WideMaps
set_option maxRecDepth 100000
def loadA2 : Op := .load 213 (.tmp 52)
theorem loadA2_is : loadA2 = Op.load 213 (.tmp 52) := rfl
def loadB2 : Op := .load 3 (.tmp 59)
theorem loadB2_is : loadB2 = Op.load 3 (.tmp 59) := rfl
attribute [local go_sem] loadA2_is
attribute [local go_sem] loadB2_is
end Go.Proofs.YtmambfdimeeijaaGreatDoor.Pf
