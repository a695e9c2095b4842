/- The searches of unrollBegun, reckoned. -/
import Derived.Test.YtjhkecnnhddhbaaGreatDoorNa
namespace Go.Proofs.YtjhkecnnhddhbaaGreatDoor.Sr
open Go.Proofs.YtjhkecnnhddhbaaGreatDoor.Pf
set_option maxRecDepth 100000
set_option autoImplicit false

/-- No step: it can't be. -/
def u0 : List (List Int) := [[-1], [1]]
/-- One step. -/
def u1 : List (List Int) := [[-2, -1], [2, 1], [-1], [2]]
/-- One step, the states of which differ. -/
def u2 : List (List Int) := [[-2, -1], [2, 1], [2], [-1], [-3, 1, 2], [-3, -1, -2], [3]]
theorem s1 (x : Int) : ([x] : List Int).mergeSort (fun x y => decide (x ≤ y)) = [x] := by simp
theorem s2 : ([-2, -1] : List Int).mergeSort (fun x y => decide (x ≤ y)) = [-2, -1] := by simp [List.mergeSort, List.MergeSort.Internal.splitInTwo]
theorem s3 : ([2, 1] : List Int).mergeSort (fun x y => decide (x ≤ y)) = [1, 2] := by simp [List.mergeSort, List.MergeSort.Internal.splitInTwo]
theorem s4 : ([-3, 1, 2] : List Int).mergeSort (fun x y => decide (x ≤ y)) = [-3, 1, 2] := by simp [List.mergeSort, List.MergeSort.Internal.splitInTwo]
theorem s5 : ([-3, -1, -2] : List Int).mergeSort (fun x y => decide (x ≤ y)) = [-3, -2, -1] := by simp [List.mergeSort, List.MergeSort.Internal.splitInTwo]
def A1 : Bd := Bd.nil.add [-1]
def A2 : Bd := A1.add [1]
theorem addU0 : addAll u0 = A2 := by
  have e0 : Bd.nil.st = [] := rfl
  have e1 : (Bd.nil.add [-1]).st = [-1] := by decide +kernel
  have l0 : layD [] [-1] = [-1] := by unfold layD sortC; rw [s1]; rfl
  have l1 : layD [-1] [1] = [1] := by unfold layD sortC; rw [s1]; rfl
  unfold addAll u0 A2 A1
  simp only [List.foldl_cons, List.foldl_nil]
  rw [e0, l0, e1, l1]
theorem lostU0 {B : Bd} (h : ∃ g f, spreadN g (addAll u0) = some (B, f)) : B.lost = true := by
  obtain ⟨g, f, h⟩ := h
  rw [addU0] at h
  have h2 : ((spreadN 5 A2).map fun r => r.1.lost) = some true := by decide +kernel
  cases h3 : spreadN 5 A2 with
  | none => rw [h3] at h2; cases h2
  | some r =>
    rw [h3] at h2
    have := spread_one h h3
    subst this
    simpa using h2
def D2 : Bd := (Bd.nil.add [-2, -1]).add [1, 2]
def D4 : Bd := (D2.add [-1]).add [2]
def D5 : Bd := ((spreadN 5 D4).getD (D4, 0)).1
theorem lay2 : layD [] [-2, -1] = [-2, -1] := by unfold layD sortC; rw [s2]; rfl
theorem lay3 : layD [] [2, 1] = [1, 2] := by unfold layD sortC; rw [s3]; rfl
theorem addU1 : addAll u1 = D4 := by
  have e0 : Bd.nil.st = [] := rfl
  have e1 : (Bd.nil.add [-2, -1]).st = [] := by decide +kernel
  have e2 : ((Bd.nil.add [-2, -1]).add [1, 2]).st = [] := by decide +kernel
  have e3 : (((Bd.nil.add [-2, -1]).add [1, 2]).add [-1]).st = [-1] := by decide +kernel
  have l2 : layD [] [-1] = [-1] := by unfold layD sortC; rw [s1]; rfl
  have l3 : layD [-1] [2] = [2] := by unfold layD sortC; rw [s1]; rfl
  unfold addAll u1 D4 D2
  simp only [List.foldl_cons, List.foldl_nil]
  rw [e0, lay2, e1, lay3, e2, l2, e3, l3]
theorem of_map {B0 : Bd} {g : Nat} (h : ((spreadN g B0).map fun r => r.2) = some (-1)) : spreadN g B0 = some (((spreadN g B0).getD (B0, 0)).1, -1) := by
  generalize spreadN g B0 = o at *
  cases o with
  | none => cases h
  | some r =>
    obtain ⟨B, f⟩ := r
    simp only [Option.map_some, Option.some.injEq] at h
    subst h
    rfl
theorem sprD4 : spreadN 5 D4 = some (D5, -1) := of_map (by decide +kernel)
theorem sprD5 : spreadN 1 D5 = some (D5, -1) := by rw [spreadN, if_neg (by decide +kernel)]
def Sd : Sx := newSx 2 D5 100000
def Sd' : Sx := (Sx.choose { Sd with B := D5 }).1
theorem runU1 {B : Bd} (h : Inv 2 u1 (fun _ => False) B) (hs : ∃ g f, spreadN g (addAll u1) = some (B, f)) : Run 2 3 0 true u1 (fun _ => False) (newSx 2 B 100000) Sd' := by
  obtain ⟨g, f, hs⟩ := hs
  rw [addU1] at hs
  have := spread_one hs sprD4
  injection this with e _
  subst e
  exact Run.ends (B' := D5) (g := 1) ⟨h, by decide +kernel, by decide, by decide +kernel, by decide +kernel⟩ sprD5 (by decide +kernel) (Prod.ext rfl (by decide +kernel)) (by decide +kernel)
theorem valU1 : valN Sd'.B Sd'.V Sd'.V = [false, true] := by decide +kernel
def E4 : Bd := (D2.add [2]).add [-1]
def E6 : Bd := (E4.add [-3, 2, 1]).add [-3, -1, -2]
def E7 : Bd := E6.add [3]
def E8 : Bd := ((spreadN 5 E7).getD (E7, 0)).1
theorem addU2 : addAll u2 = E7 := by
  have e0 : Bd.nil.st = [] := rfl
  have e1 : (Bd.nil.add [-2, -1]).st = [] := by decide +kernel
  have e2 : ((Bd.nil.add [-2, -1]).add [1, 2]).st = [] := by decide +kernel
  have e3 : (((Bd.nil.add [-2, -1]).add [1, 2]).add [2]).st = [2] := by decide +kernel
  have e4 : ((((Bd.nil.add [-2, -1]).add [1, 2]).add [2]).add [-1]).st = [2, -1] := by decide +kernel
  have e5 : (((((Bd.nil.add [-2, -1]).add [1, 2]).add [2]).add [-1]).add [-3, 2, 1]).st = [2, -1] := by decide +kernel
  have e6 : ((((((Bd.nil.add [-2, -1]).add [1, 2]).add [2]).add [-1]).add [-3, 2, 1]).add [-3, -1, -2]).st = [2, -1] := by decide +kernel
  have l2 : layD [] [2] = [2] := by unfold layD sortC; rw [s1]; rfl
  have l3 : layD [2] [-1] = [-1] := by unfold layD sortC; rw [s1]; rfl
  have l4 : layD [2, -1] [-3, 1, 2] = [-3, 2, 1] := by unfold layD sortC; rw [s4]; rfl
  have l5 : layD [2, -1] [-3, -1, -2] = [-3, -1, -2] := by unfold layD sortC; rw [s5]; rfl
  have l6 : layD [2, -1] [3] = [3] := by unfold layD sortC; rw [s1]; rfl
  unfold addAll u2 E7 E6 E4 D2
  simp only [List.foldl_cons, List.foldl_nil]
  rw [e0, lay2, e1, lay3, e2, l2, e3, l3, e4, l4, e5, l5, e6, l6]
theorem sprE7 : spreadN 5 E7 = some (E8, -1) := of_map (by decide +kernel)
theorem sprE8 : spreadN 1 E8 = some (E8, -1) := by rw [spreadN, if_neg (by decide +kernel)]
def Se : Sx := newSx 3 E8 12500
def Se' : Sx := (Sx.choose { Se with B := E8 }).1
theorem runU2 {B : Bd} (h : Inv 3 u2 (fun _ => False) B) (hs : ∃ g f, spreadN g (addAll u2) = some (B, f)) : Run 3 4 0 true u2 (fun _ => False) (newSx 3 B 12500) Se' := by
  obtain ⟨g, f, hs⟩ := hs
  rw [addU2] at hs
  have := spread_one hs sprE7
  injection this with e _
  subst e
  exact Run.ends (B' := E8) (g := 1) ⟨h, by decide +kernel, by decide, by decide +kernel, by decide +kernel⟩ sprE8 (by decide +kernel) (Prod.ext rfl (by decide +kernel)) (by decide +kernel)
end Go.Proofs.YtjhkecnnhddhbaaGreatDoor.Sr
