/- Gates: the plain text: And of any two, what nodes are; what must be in any case. -/
import Derived.Test.YtjhkecnnhddhbaaGreatDoorGn
namespace Go.Proofs.YtjhkecnnhddhbaaGreatDoor
open Go.RowKit Go.Maps Go.WideMaps
set_option maxRecDepth 100000
set_option maxRecDepth 100000
set_option maxRecDepth 100000

theorem turn_iff {x y : Int} : x = turn y ↔ x / 2 = y / 2 ∧ x ≠ y := by
  unfold turn odd
  by_cases h : y % 2 = 1
  · have : (y % 2 == 1) = true := by simpa using h
    rw [this, if_pos rfl]; omega
  · have : (y % 2 == 1) = false := by simpa using h
    rw [this, if_neg (by decide)]; omega

/-- The two Ands are one. -/
theorem and_ref (ins : Int) (ps : List (Int × Int)) (x y : Int) (hl : ps.length ≤ 1000000) :
    (makOk ps x y = true → makPs ps x y = refPs ps x y ∧ makLit ins ps x y = refLit ins ps x y ∧ (refPs ps x y).length ≤ 1000000) ∧ (makOk ps x y = false → 1000000 < (refPs ps x y).length) := by
  by_cases h1 : x = 0 ∨ x = turn y
  · have h1' : x = 0 ∨ (x / 2 = y / 2 ∧ x ≠ y) := h1.imp id (fun h => turn_iff.1 h)
    obtain ⟨e1, e2, e3⟩ := mak_no (ins := ins) (ps := ps) h1
    obtain ⟨f1, f2⟩ := ref_no (ins := ins) (ps := ps) h1'
    rw [e1, e2, e3, f1, f2]
    exact ⟨fun _ => ⟨rfl, rfl, hl⟩, fun h => by cases h⟩
  have h1' : ¬ (x = 0 ∨ (x / 2 = y / 2 ∧ x ≠ y)) := fun h => h1 (h.imp id (fun h => turn_iff.2 h))
  by_cases h2 : x = 1 ∨ x = y
  · obtain ⟨e1, e2, e3⟩ := mak_one (ins := ins) (ps := ps) h1 h2
    obtain ⟨f1, f2⟩ := ref_one (ins := ins) (ps := ps) h1' h2
    rw [e1, e2, e3, f1, f2]
    exact ⟨fun _ => ⟨rfl, rfl, hl⟩, fun h => by cases h⟩
  obtain ⟨e1, e2, e3⟩ := mak_add (ins := ins) (ps := ps) h1 h2
  rw [e1, e2, e3]
  by_cases h3 : 0 ≤ andAt ps ps.length (x, y)
  · obtain ⟨f1, f2⟩ := ref_at (ins := ins) (ps := ps) h1' h2 h3
    rw [f1, f2]
    refine ⟨fun _ => ⟨by unfold addPs; rw [if_pos h3], by unfold addLit; rw [if_pos h3], hl⟩, fun h => ?_⟩
    simp [addOk, h3] at h
  · obtain ⟨f1, f2⟩ := ref_new (ins := ins) (ps := ps) h1' h2 h3
    rw [f1, f2, List.length_append]
    refine ⟨fun h => ?_, fun h => ?_⟩
    · have h4 : ps.length < 1000000 := by simpa [addOk, h3] using h
      exact ⟨by unfold addPs; rw [if_neg h3, if_neg (by omega)], by unfold addLit; rw [if_neg h3, if_neg (by omega)], by simp; omega⟩
    · have h4 : ¬ ps.length < 1000000 := by simpa [addOk, h3] using h
      simp; omega

theorem bg_e : andE 2 [] 4 2 = 0 := by decide
theorem bg_l : outLit 2 [] 4 2 0 = 6 := by decide
theorem bg_i : outIns 2 0 = 2 := by decide
theorem bg_p : outPs [] 4 2 0 = [(2, 4)] := by decide
theorem bg_c : chkE 2 [(2, 4)] = 0 := by decide
theorem bg_v : evE 2 [(2, 4)] [true, true] [6, 7] = 0 := by decide
theorem bg_r : evL [(2, 4)] [true, true] [6, 7] 0 = [true, false] := by decide
theorem bg_w : WfP [(2, 4)] := fun i h => by
  match i, h with
  | 0, _ => exact ⟨⟨by simp, by simp⟩, ⟨by simp, by simp⟩⟩

end Go.Proofs.YtjhkecnnhddhbaaGreatDoor
