/- GatesEvals: the walk. -/
import Derived.Test.YtjhkecnnhddhbaaGreatDoorGo
namespace Go.Proofs.YtjhkecnnhddhbaaGreatDoor
open Go.RowKit Go.Maps Go.WideMaps
set_option maxRecDepth 100000
set_option maxRecDepth 100000
set_option maxRecDepth 100000

theorem lits_any (e : Int) (ls : List Int) : ls.all (isLit e) = !ls.any (noLit e) := by
  induction ls with
  | nil => rfl
  | cons a l ih => simp only [List.all_cons, List.any_cons, ih, isLit]; cases noLit e a <;> simp
theorem nil_bools {w : World} {p : Option Addr} : BoolsAt w p [] := fun h => by simp at h
theorem dec_self (l : List Bool) : decide (l = l) = true := by simp

end Go.Proofs.YtjhkecnnhddhbaaGreatDoor
