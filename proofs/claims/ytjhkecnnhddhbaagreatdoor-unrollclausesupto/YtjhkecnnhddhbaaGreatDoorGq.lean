/- GatesAnds: the walk (printed by gen_gq.py). -/
import Derived.Test.YtjhkecnnhddhbaaGreatDoorGo
namespace Go.Proofs.YtjhkecnnhddhbaaGreatDoor
open Go.RowKit Go.Maps Go.WideMaps
set_option maxRecDepth 100000
set_option maxRecDepth 100000
set_option maxRecDepth 100000

theorem wfp_nil : WfP [] := fun i h => by simp at h
theorem nil_pairs {w : World} {p : Option Addr} : PairsAt w p [] := fun h => by simp at h
theorem sameG_self (i : Int) (ps : List (Int × Int)) : sameG i i ps ps = true := by simp [sameG]

theorem set2_far {w : World} {B : Nat} {u1 u2 x : Value} {q : Addr} (h : w.cell? q = some x) (hne : q.block ≠ B) : ((w.setCell ⟨B, 0, none⟩ u1).setCell ⟨B, 1, none⟩ u2).cell? q = some x := cell_set_far (cell_set_far h hne) hne
theorem set2_at0 {w : World} {B : Nat} {u1 u2 x : Value} (h : w.cell? ⟨B, 0, none⟩ = some x) : ((w.setCell ⟨B, 0, none⟩ u1).setCell ⟨B, 1, none⟩ u2).cell? ⟨B, 0, none⟩ = some u1 := by
  rw [World.cell?_setCell_other _ _ _ _ (by simp)]; exact World.cell?_setCell_same w _ _ h
theorem set2_at1 {w : World} {B : Nat} {u1 u2 x : Value} (h : w.cell? ⟨B, 1, none⟩ = some x) : ((w.setCell ⟨B, 0, none⟩ u1).setCell ⟨B, 1, none⟩ u2).cell? ⟨B, 1, none⟩ = some u2 := by
  refine World.cell?_setCell_same _ _ _ (u := x) ?_
  rw [World.cell?_setCell_other w _ _ _ (by simp)]; exact h
theorem set2_below {w0 w : World} {B : Nat} {u1 u2 : Value} (h : Below w0.heap.size w0 w) (hB : w0.heap.size ≤ B) : Below w0.heap.size w0 ((w.setCell ⟨B, 0, none⟩ u1).setCell ⟨B, 1, none⟩ u2) := (h.setCell hB u1).setCell hB u2
theorem wf_ref {ps : List (Int × Int)} (h : WfP ps) (x y : Int) (hx : Wf x) (hy : Wf y) : WfP (refPs ps x y) := by
  unfold refPs
  split
  · exact h
  split
  · exact h
  split
  · exact h
  intro i hi
  rw [List.length_append] at hi
  by_cases e : i < ps.length
  · rw [List.getElem_append_left e]; exact h i e
  · rw [List.getElem_append_right (by omega)]
    simp at hi
    obtain rfl : i = ps.length := by omega
    simp
    exact ⟨hx, hy⟩

end Go.Proofs.YtjhkecnnhddhbaaGreatDoor
