/- What Fit is held against returns the same. -/
import Derived.Test.YtjhkecnnhddhbaaGreatDoorWc
import Derived.Deep.Light
namespace Go.Proofs.YtjhkecnnhddhbaaGreatDoor.Ev
open Go.RowKit
set_option maxRecDepth 100000
set_option maxRecDepth 100000

/-- Are the widths so? (the plain text's own words) -/
def okOf (k own n a b c : Int) : Bool :=
  if k = 4 ∨ k = 5 then a == own else if 6 ≤ k ∧ k ≤ 15 then a == own && b == own else if 16 ≤ k ∧ k ≤ 18 then a == b && own == 1
  else if k = 19 then a == 1 && b == own && c == own else if k = 20 then a + b == own
  else if k = 21 then decide (0 ≤ n) && decide (n ≤ 8) && decide (n + own ≤ a) else decide (a ≤ own)

def refE (k own n a b c : Int) : Int :=
  if takes k = 0 then 7 else if btw own 1 8 = false then 3 else if rngOk (takes k) a b c = false then 3
  else if okOf k own n a b c = false ∨ (k ≠ 21 ∧ n ≠ 0) then 1 else 0


end Go.Proofs.YtjhkecnnhddhbaaGreatDoor.Ev
