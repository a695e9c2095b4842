/- The plain texts of steps: what is asked of a circuit and of steps. -/
import Derived.Test.YtjhkecnnhddhbaaGreatDoorTf
namespace Go.Proofs.YtjhkecnnhddhbaaGreatDoor
open Go.RowKit Go.Maps Go.WideMaps
set_option maxRecDepth 100000
set_option autoImplicit false

/-- What is said of so many begins. -/
def stE (e : Int) (begun : Bool) (l : List Int) : Int := if e ≠ 0 then e else if (begun && l.any fun x => decide (1 < x)) = true then 7 else 0
theorem stE_nil (e : Int) (begun : Bool) : stE e begun [] = e := by
  unfold stE
  by_cases h : e = 0 <;> simp [h]
theorem stE_stay {e : Int} {begun : Bool} {l : List Int} {k : Nat} (h : ¬ stE e begun (l.take k) = 0) : stE e begun l = stE e begun (l.take k) := by
  unfold stE at *
  by_cases h0 : e = 0
  · subst h0
    simp only [ne_eq, not_true_eq_false, if_false] at *
    by_cases h1 : (begun && (l.take k).any fun x => decide (1 < x)) = true
    · have h2 : (begun && l.any fun x => decide (1 < x)) = true := by
        simp only [Bool.and_eq_true, List.any_eq_true] at *
        obtain ⟨hb, x, hx, h⟩ := h1
        exact ⟨hb, x, List.mem_of_mem_take hx, h⟩
      rw [if_pos h1, if_pos h2]
    · rw [if_neg h1] at h; exact absurd rfl h
  · rw [if_pos h0, if_pos h0]
theorem stE_step {e : Int} {begun : Bool} {l : List Int} {k : Nat} (hk : k < l.length) (h : stE e begun (l.take k) = 0) : stE e begun (l.take (k + 1)) = if (begun && decide (1 < l[k])) = true then 7 else 0 := by
  unfold stE at *
  by_cases h0 : e = 0
  · subst h0
    simp only [ne_eq, not_true_eq_false, if_false] at *
    by_cases h1 : (begun && (l.take k).any fun x => decide (1 < x)) = true
    · rw [if_pos h1] at h; cases h
    · rw [List.take_succ_eq_append_getElem hk, List.any_append]
      cases begun
      · rfl
      · have h2 : ((l.take k).any fun x => decide (1 < x)) = false := by simpa using h1
        rw [h2]
        simp
  · rw [if_pos h0] at h; exact absurd h h0
end Go.Proofs.YtjhkecnnhddhbaaGreatDoor
