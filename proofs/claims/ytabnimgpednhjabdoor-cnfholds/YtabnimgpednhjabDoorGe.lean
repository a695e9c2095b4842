/- Gates: the plain text: a graph is checked. -/
import Derived.Test.YtabnimgpednhjabDoorGd
namespace Go.Proofs.YtabnimgpednhjabDoor
open Go.RowKit Go.Maps Go.WideMaps
set_option maxRecDepth 100000
set_option maxRecDepth 100000

theorem andAt_ge (ps : List (Int × Int)) (k : Nat) (x : Int × Int) : -1 ≤ andAt ps k x ∧ andAt ps k x ≤ k := by
  unfold andAt
  cases h : (ps.take k).findIdx? (· == x) with
  | none => simp
  | some i =>
    rw [List.findIdx?_eq_some_iff_getElem] at h
    obtain ⟨h1, _⟩ := h
    rw [List.length_take] at h1
    simp
    omega

end Go.Proofs.YtabnimgpednhjabDoor
