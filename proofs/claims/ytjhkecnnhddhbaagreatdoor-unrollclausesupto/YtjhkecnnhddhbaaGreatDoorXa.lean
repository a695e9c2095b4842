/- WordFits: the walk. -/
import Derived.Test.YtjhkecnnhddhbaaGreatDoorVf
import Derived.Deep.RegionWith
namespace Go.Proofs.YtjhkecnnhddhbaaGreatDoor.Ev
open Go.RowKit
set_option maxRecDepth 100000
set_option maxRecDepth 100000

theorem fitE_begun : fitE 9 4 0 4 4 0 = 0 := by decide
theorem apE_begun : apE 9 4 9 9 0 0 4 4 0 = 0 := by decide
theorem apV_begun : apV 9 4 9 9 0 0 4 4 0 = 2 := by decide

/-- From one world to the next, below what was there first. -/
theorem bthen {w w1 w2 : World} (h : Below w.heap.size w w1) (k : Below w1.heap.size w1 w2) : Below w.heap.size w w2 := h.trans (k.mono h.size)

end Go.Proofs.YtjhkecnnhddhbaaGreatDoor.Ev
