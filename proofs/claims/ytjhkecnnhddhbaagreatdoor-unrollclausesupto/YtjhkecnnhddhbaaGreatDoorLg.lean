/- What must be in any case, reckoned: the clauses of searchBegun. -/
import Derived.Test.YtjhkecnnhddhbaaGreatDoorLf
namespace Go.Proofs.YtjhkecnnhddhbaaGreatDoor.Sr
open Go.Proofs.YtjhkecnnhddhbaaGreatDoor.Pf
set_option maxRecDepth 100000
set_option autoImplicit false

def c3 : List (List Int) := [[1, 2], [1, -2], [-1, 2]]
theorem m0 : ([1, 2] : List Int).mergeSort (fun x y => decide (x ≤ y)) = [1, 2] := by simp [List.mergeSort, List.MergeSort.Internal.splitInTwo]
theorem m1 : ([1, -2] : List Int).mergeSort (fun x y => decide (x ≤ y)) = [-2, 1] := by simp [List.mergeSort, List.MergeSort.Internal.splitInTwo]
theorem m2 : ([-1, 2] : List Int).mergeSort (fun x y => decide (x ≤ y)) = [-1, 2] := by simp [List.mergeSort, List.MergeSort.Internal.splitInTwo]
theorem m3 : ([1] : List Int).mergeSort (fun x y => decide (x ≤ y)) = [1] := by simp
theorem l0 : layD [] [1, 2] = [1, 2] := by unfold layD sortC; rw [m0]; rfl
theorem l1 : layD [] [1, -2] = [-2, 1] := by unfold layD sortC; rw [m1]; rfl
theorem l2 : layD [] [-1, 2] = [-1, 2] := by unfold layD sortC; rw [m2]; rfl
theorem l3 : layD [] [1] = [1] := by unfold layD sortC; rw [m3]; rfl
def B3 : Bd := ((Bd.nil.add [1, 2]).add [-2, 1]).add [-1, 2]
theorem add3 : addAll c3 = B3 := by
  have e0 : Bd.nil.st = [] := rfl
  have e1 : (Bd.nil.add [1, 2]).st = [] := by decide +kernel
  have e2 : ((Bd.nil.add [1, 2]).add [-2, 1]).st = [] := by decide +kernel
  unfold addAll c3 B3
  simp only [List.foldl_cons, List.foldl_nil]
  rw [e0, l0, e1, l1, e2, l2]
theorem spr0 : spreadN 1 B3 = some (B3, -1) := by
  rw [spreadN, if_neg (by decide +kernel)]
/-- Behind the first choice. -/
def B4 : Bd := B3.choose (-1)
theorem spr1 : ((spreadN 5 B4).map fun r => (r.1.sp, r.1.cl, r.2)) = some ([(-1, 1, -1), (2, 1, 0)], [[2, 1], [-2, 1], [-1, 2]], 1) := by decide +kernel
/-- While a lesson is made: the searcher, how many are open, the others. -/
structure Lz where
  S : Sx
  op : Int
  oth : List Int
/-- Is a number of a clause none of the causes? -/
def Lz.skip (T : Lz) (x : Int) : Bool := decide (-x ∉ T.S.B.st) || decide (lvOf T.S.B x = 0) || decide (T.S.marks.getD (T.S.B.st.idxOf (-x)) 0 = T.S.lessons)
/-- A number of a clause is met. -/
def Lz.meet1 (T : Lz) (x : Int) : Lz := if T.skip x then T else
  ⟨{ T.S with marks := T.S.marks.set (T.S.B.st.idxOf (-x)) T.S.lessons, Q := T.S.Q.meet x.natAbs }, if lvOf T.S.B x = T.S.B.level then T.op + 1 else T.op, if lvOf T.S.B x = T.S.B.level then T.oth else T.oth ++ [x]⟩
def Lz.meet (T : Lz) (c : List Int) : Lz := c.foldl Lz.meet1 T
/-- The searcher of searchBegun, as its first clause fails: what the first meeting makes of it. -/
theorem met0 : ((spreadN 5 B4).map fun r => let T := (Lz.meet ⟨{ newSx 2 r.1 100000 with Q := (newQ 2 2).hpop, lessons := 1 }, 0, []⟩ (r.1.cl.getD r.2.toNat [])); (T.S.marks, T.S.Q.hp, T.S.Q.wt, T.op, T.oth)) = some ([1, 1], [2], [0, 1024, 1024], 2, []) := by decide +kernel
end Go.Proofs.YtjhkecnnhddhbaaGreatDoor.Sr
