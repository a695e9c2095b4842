/- A board: back to level 0. -/
import Derived.Test.YtjhkecnnhddhbaaGreatDoorPiM
namespace Go.Proofs.YtjhkecnnhddhbaaGreatDoor.Pf
open Go.RowKit Go.Maps Go.WideMaps
set_option maxRecDepth 100000
theorem flatS_at {l : List (Int × Int × Int)} {j : Nat} (hj : j < l.length) : (flatS l)[j * 3]? = some (.int .i64 l[j].1) ∧ (flatS l)[j * 3 + 1]? = some (.int .i64 l[j].2.1) ∧ (flatS l)[j * 3 + 2]? = some (.int .i64 l[j].2.2) := by
 induction l generalizing j with
 | nil => simp at hj
 | cons a l ih =>
   have e : flatS (a :: l) = .int .i64 a.1 :: .int .i64 a.2.1 :: .int .i64 a.2.2 :: flatS l := by simp [flatS]
   rw [e]
   cases j with
   | zero => simp
   | succ j =>
     have h := ih (j := j) (by simpa using hj)
     rw [show (j + 1) * 3 = j * 3 + 3 by omega]
     simpa using h
section
variable {w : World} {X : Nat → Prop} {R S W nS nW : Nat} {vc : Value} {wk : Int} {cg cc : Nat → Nat} {wv : Int → Value} {B : Bd}
end
def loadA : Op := .load 205 (.tmp 52)
theorem loadA_fold : Op.load 205 (.tmp 52) = loadA := rfl
theorem loadA_is : loadA = Op.load 205 (.tmp 52) := rfl
def loadB : Op := .load 3 (.tmp 59)
theorem loadB_is : loadB = Op.load 3 (.tmp 59) := rfl
attribute [local go_sem] loadA_is
attribute [local go_sem] loadB_is
end Go.Proofs.YtjhkecnnhddhbaaGreatDoor.Pf
