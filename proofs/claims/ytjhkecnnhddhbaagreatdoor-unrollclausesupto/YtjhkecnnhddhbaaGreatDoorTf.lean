/- The plain clauses of a step are those of the unrolled circuit: lists alone. -/
import Derived.Test.YtjhkecnnhddhbaaGreatDoorTe
namespace Go.Proofs.YtjhkecnnhddhbaaGreatDoor
set_option autoImplicit false

/-- What all ands of a step say is what the unrolled ones say. -/
theorem andP_T (C : Ci) (t k : Nat) (hk : k ≤ C.ps.length) (h2 : ∀ i (h : i < C.ps.length), 2 ≤ C.ps[i].1 ∧ 2 ≤ C.ps[i].2) :
    andP C.ins (t * C.f) C.ps k = andsT C t k := by
  induction k with
  | zero => rfl
  | succ k ih =>
    have h := h2 k (by omega)
    rw [andP_succ _ _ _ _ (by omega), andsT_succ _ _ _ (by omega), ih (by omega), numP_at _ _ _ h.1, numP_at _ _ _ h.2, show 1 + C.ins + (k : Int) + (t : Int) * C.f = (t : Int) * C.f + 1 + C.ins + k by omega]
    rfl
/-- What must hold at a step. -/
theorem mustP_T (f : Int) (t : Nat) (x : Int) (hx : 0 ≤ x) (hf : 0 ≤ (t : Int) * f) : mustP x (t * f) = rootC (atL f t x) := by
  unfold mustP rootC
  by_cases h1 : x = 1
  · subst h1
    rw [if_pos rfl, if_pos (by unfold atL; rw [if_pos (by decide)])]
  · by_cases h0 : x = 0
    · subst h0
      have e : atL f t 0 = 0 := by unfold atL; rw [if_pos (by decide)]
      rw [e, if_neg (by decide), if_pos rfl]
      rfl
    · have e : atL f t x = x + 2 * (t * f) := by unfold atL; rw [if_neg (by omega)]
      rw [if_neg h1, if_neg h0, numP_at f t x (by omega), if_neg (by omega), if_neg (by omega)]
end Go.Proofs.YtjhkecnnhddhbaaGreatDoor
