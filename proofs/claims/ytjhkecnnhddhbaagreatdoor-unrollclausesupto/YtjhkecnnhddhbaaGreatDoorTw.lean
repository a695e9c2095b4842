/- The row's closed facts, one by one. -/
import Derived.Test.YtjhkecnnhddhbaaGreatDoorRows
import Derived.JoinedCond
namespace Go.Proofs.YtjhkecnnhddhbaaGreatDoor
set_option maxRecDepth 100000
set_option maxHeartbeats 16000000 in
theorem closedFacts : joinedFacts Tryz.pinned.checked.prog 3 Tryz.f3 (Rows.OpenSpec.upto Rows.unrollClausesSpec).bare Rows.unrollClausesUptoRow = true := by
 unfold joinedFacts
 simp only [Bool.and_eq_true]
 repeat' apply And.intro
 all_goals (as_aux_lemma => kernel_rfl)
end Go.Proofs.YtjhkecnnhddhbaaGreatDoor
