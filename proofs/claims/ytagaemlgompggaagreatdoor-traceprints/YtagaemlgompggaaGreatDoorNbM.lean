/- The plain text: a node is checked. -/
import Derived.Test.YtagaemlgompggaaGreatDoorMn
namespace Go.Proofs.YtagaemlgompggaaGreatDoor.Ev
open Go.RowKit
set_option maxRecDepth 100000

end Go.Proofs.YtagaemlgompggaaGreatDoor.Ev

namespace Go.Proofs.YtagaemlgompggaaGreatDoor.Ev
open Go.RowKit
set_option maxRecDepth 100000

theorem btw_isW (n v : Int) (hv : 0 ≤ v ∧ v ≤ 8) : btw n 0 (wrap64 (two v - 1)) = isW n v := by
  have := two_bd hv
  rw [show wrap64 (two v - 1) = two v - 1 from by unfold wrap64; omega, Bool.eq_iff_iff, btw_true, isW_iff]
  omega


end Go.Proofs.YtagaemlgompggaaGreatDoor.Ev
