/- What must be in any case, reckoned: the clauses of searchBegun. -/
import Derived.Test.YtjhkecnnhddhbaaGreatDoorLf
import Derived.RangeFuncNested
import Derived.RangeFuncBound
import Derived.RangeFuncCalls
import Derived.RangeFuncLeaves
namespace Go.Proofs.YtjhkecnnhddhbaaGreatDoor.Sr
open Go.Proofs.YtjhkecnnhddhbaaGreatDoor.Pf
set_option maxRecDepth 100000
set_option autoImplicit false
def c3 : List (List Int) := [[1, 2], [1, -2], [-1, 2]]
theorem m0 : ([1, 2] : List Int).mergeSort (fun x y => decide (x ≤ y)) = [1, 2] := by simp [List.mergeSort, List.MergeSort.Internal.splitInTwo]
theorem m1 : ([1, -2] : List Int).mergeSort (fun x y => decide (x ≤ y)) = [-2, 1] := by simp [List.mergeSort, List.MergeSort.Internal.splitInTwo]
theorem m2 : ([-1, 2] : List Int).mergeSort (fun x y => decide (x ≤ y)) = [-1, 2] := by simp [List.mergeSort, List.MergeSort.Internal.splitInTwo]
theorem m3 : ([1] : List Int).mergeSort (fun x y => decide (x ≤ y)) = [1] := by simp
theorem l0 : layD [] [1, 2] = [1, 2] := by unfold layD sortC; rw [m0]; rfl
theorem l1 : layD [] [1, -2] = [-2, 1] := by unfold layD sortC; rw [m1]; rfl
theorem l2 : layD [] [-1, 2] = [-1, 2] := by unfold layD sortC; rw [m2]; rfl
theorem l3 : layD [] [1] = [1] := by unfold layD sortC; rw [m3]; rfl
def B3 : Bd := ((Bd.nil.add [1, 2]).add [-2, 1]).add [-1, 2]
def B4 : Bd := B3.choose (-1)
structure Lz where
 S : Sx
 op : Int
 oth : List Int
end Go.Proofs.YtjhkecnnhddhbaaGreatDoor.Sr

namespace Go.Proofs.YtjhkecnnhddhbaaGreatDoor.Sr
open Go.RowKit Go.Maps Go.Proofs.YtjhkecnnhddhbaaGreatDoor.Pf
set_option maxRecDepth 100000
set_option autoImplicit false
end Go.Proofs.YtjhkecnnhddhbaaGreatDoor.Sr

namespace Go.Proofs.YtjhkecnnhddhbaaGreatDoor.Sr
open Go.RowKit Go.Maps Go.Proofs.YtjhkecnnhddhbaaGreatDoor.Pf
set_option maxRecDepth 100000
set_option autoImplicit false
end Go.Proofs.YtjhkecnnhddhbaaGreatDoor.Sr

namespace Go.Proofs.YtjhkecnnhddhbaaGreatDoor.Sr
open Go.RowKit Go.Maps Go.Proofs.YtjhkecnnhddhbaaGreatDoor.Pf
set_option maxRecDepth 100000
set_option autoImplicit false
section
variable {base : Nat} {w : World} {s : Nat} {XB XQ : Nat → Prop} {R nS nW q gp gw gm gl : Nat} {vh vl vp : Value} {S : Sx}
end
end Go.Proofs.YtjhkecnnhddhbaaGreatDoor.Sr

namespace Go.Proofs.YtjhkecnnhddhbaaGreatDoor.Sr
open Go.RowKit Go.Maps Go.Proofs.YtjhkecnnhddhbaaGreatDoor.Pf
set_option maxRecDepth 100000
set_option autoImplicit false
section
variable {base : Nat} {w : World} {s : Nat} {XB XQ : Nat → Prop} {R nS nW q gp gw gm gl : Nat} {vh vl vp : Value} {S : Sx}
end
end Go.Proofs.YtjhkecnnhddhbaaGreatDoor.Sr

namespace Go.Proofs.YtjhkecnnhddhbaaGreatDoor.Sr
open Go.RowKit Go.Maps Go.Proofs.YtjhkecnnhddhbaaGreatDoor.Pf
set_option maxRecDepth 100000
set_option autoImplicit false
section
variable {F : Fence} {n : Nat} {P : Program} {ps : Array Tmp} {assign body : Code} {B : Nat}
end
end Go.Proofs.YtjhkecnnhddhbaaGreatDoor.Sr
