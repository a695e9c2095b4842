/- Gates: sameBools only reads. -/
import Derived.Test.YtjhkecnnhddhbaaGreatDoorGc
namespace Go.Proofs.YtjhkecnnhddhbaaGreatDoor
open Go.RowKit Go.Maps Go.WideMaps
set_option maxRecDepth 100000
set_option maxRecDepth 100000
set_option maxRecDepth 100000

theorem drewN_add (w : World) (n m : Nat) : (w.drewN n).drewN m = w.drewN (n + m) := by simp

end Go.Proofs.YtjhkecnnhddhbaaGreatDoor
