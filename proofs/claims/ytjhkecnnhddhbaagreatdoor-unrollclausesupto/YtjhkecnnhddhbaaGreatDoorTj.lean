/- The plain clauses of a step are those of the unrolled circuit: bonds, begins, bads; lists alone. -/
import Derived.Test.YtjhkecnnhddhbaaGreatDoorTi
namespace Go.Proofs.YtjhkecnnhddhbaaGreatDoor
set_option autoImplicit false

theorem stL_num (f a : Int) (t i : Nat) (h0 : 0 ≤ (t : Int) * f) (ha : 0 ≤ a) : numL (stL f a t i) = t * f + 1 + a + i ∧ numL (turn (stL f a t i)) = -(t * f + 1 + a + i) ∧ 2 ≤ stL f a t i ∧ 2 ≤ turn (stL f a t i) := by
  have e : stL f a t i = 2 * (1 + a + i) + 2 * (t * f) := by unfold stL atL; rw [if_neg (by omega)]
  have o : odd (stL f a t i) = false := by rw [e]; unfold odd; rw [show (2 * (1 + a + (i : Int)) + 2 * ((t : Int) * f)) % 2 = 0 by omega]; rfl
  have o2 : odd (stL f a t i + 1) = true := by rw [e]; unfold odd; rw [show (2 * (1 + a + (i : Int)) + 2 * ((t : Int) * f) + 1) % 2 = 1 by omega]; rfl
  have tu : turn (stL f a t i) = stL f a t i + 1 := by unfold turn; rw [o]; rfl
  refine ⟨?_, ?_, by rw [e]; omega, by rw [tu, e]; omega⟩
  · unfold numL; rw [o, if_neg (by simp), e]; omega
  · rw [tu]; unfold numL; rw [o2, if_pos rfl, e]; omega
/-- The clauses that a bit is what another is, plainly. -/
def samP (b x : Int) (n : Int) : List (List Int) := if n = 0 then [[-b]] else if n = 1 then [[b]] else [[-b, x], [b, -x]]
theorem same_P (f a : Int) (t u i : Nat) (n : Int) (hn : 0 ≤ n) (h0 : 0 ≤ (t : Int) * f) (hu : 0 ≤ (u : Int) * f) (ha : 0 ≤ a) : sameC (stL f a t i) (atL f u n) = samP (t * f + 1 + a + i) (numP n (u * f)) n := by
  obtain ⟨h1, h2, h3, h4⟩ := stL_num f a t i h0 ha
  unfold sameC samP
  by_cases hn0 : n = 0
  · subst hn0
    have e : atL f u 0 = 0 := by unfold atL; rw [if_pos (by decide)]
    rw [e, if_neg (by decide), if_pos rfl, if_pos rfl]
    unfold rootC
    rw [if_neg (by omega), if_neg (by omega), h2]
  · by_cases hn1 : n = 1
    · subst hn1
      have e : atL f u 1 = 1 := by unfold atL; rw [if_pos (by decide)]
      rw [e, if_pos rfl, if_neg (by decide), if_pos rfl]
      unfold rootC
      rw [if_neg (by omega), if_neg (by omega), h1]
    · have e : atL f u n = n + 2 * (u * f) := by unfold atL; rw [if_neg (by omega)]
      rw [if_neg (by omega), if_neg (by omega), if_neg hn0, if_neg hn1, h1, numP_at f u n (by omega)]
/-- The clauses of what a bit begins as, plainly. -/
def begP (b : Int) (n : Int) : List (List Int) := if n = 0 then [[-b]] else if n = 1 then [[b]] else []
theorem begin_P (C : Ci) (i : Nat) (hn : C.i.ns.getD i 0 = -1 ∨ C.i.ns.getD i 0 = 0 ∨ C.i.ns.getD i 0 = 1) (ha : 0 ≤ C.a) : beginC C i = begP (0 * C.f + 1 + C.a + i) (C.i.ns.getD i 0) := by
  unfold beginC
  generalize C.i.ns.getD i 0 = n at *
  obtain ⟨h1, h2, h3, h4⟩ := stL_num C.f C.a 0 i (by simp) ha
  rcases hn with rfl | rfl | rfl
  · rw [if_pos rfl]; rfl
  · rw [if_neg (by decide)]
    unfold sameC rootC begP
    rw [if_neg (by decide), if_pos rfl, if_pos rfl, if_neg (by omega), if_neg (by omega), h2]
    rfl
  · rw [if_neg (by decide)]
    unfold sameC rootC begP
    rw [if_pos rfl, if_neg (by omega), if_neg (by omega), h1, if_neg (by decide), if_pos rfl]
    rfl
end Go.Proofs.YtjhkecnnhddhbaaGreatDoor
