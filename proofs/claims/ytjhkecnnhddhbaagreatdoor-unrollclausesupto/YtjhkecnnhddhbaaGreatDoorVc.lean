/- Plain: what an operation makes; and that what is calculated, without what is beyond the width, is that. -/
import Derived.Test.YtjhkecnnhddhbaaGreatDoorVb
import Derived.Test.YtjhkecnnhddhbaaGreatDoorWp
namespace Go.Proofs.YtjhkecnnhddhbaaGreatDoor.Ev
open Go.RowKit
set_option maxRecDepth 100000
set_option maxRecDepth 100000

/-- What an operation makes. -/
def madeE (k v a b c n wa wb : Int) : Int :=
  if k = 4 then two v - 1 - a
  else if k = 5 then (two v - a) % two v
  else if k = 6 then ((a.toNat &&& b.toNat : Nat) : Int)
  else if k = 7 then ((a.toNat ||| b.toNat : Nat) : Int)
  else if k = 8 then ((a.toNat ^^^ b.toNat : Nat) : Int)
  else if k = 9 then (a + b) % two v
  else if k = 10 then (a + two v - b) % two v
  else if k = 11 then a * b % two v
  else if k = 12 then if b = 0 then two v - 1 else a / b
  else if k = 13 then if b = 0 then a else a % b
  else if k = 14 then if v ≤ b then 0 else a * two b % two v
  else if k = 15 then if v ≤ b then 0 else a / two b
  else if k = 16 then yesOf (a == b)
  else if k = 17 then yesOf (decide (a < b))
  else if k = 18 then yesOf (decide (sgn a wa < sgn b wb))
  else if k = 19 then if a = 1 then b else c
  else if k = 20 then a * two wb + b
  else if k = 21 then a / two n % two v
  else if k = 23 then (sgn a wa + two v) % two v
  else a

theorem fit_zero {k v n a b c : Int} (h : fitE k v n a b c = 0) :
    (1 ≤ v ∧ v ≤ 8) ∧ rngOk (takes k) a b c = true ∧ okOf k v n a b c = true ∧ (k = 21 ∨ n = 0) ∧ (4 ≤ k ∧ k ≤ 23) := by
  rw [← ref_fit] at h
  unfold refE at h
  by_cases h1 : takes k = 0
  · rw [if_pos h1] at h; omega
  rw [if_neg h1] at h
  by_cases h2 : btw v 1 8 = false
  · rw [if_pos h2] at h; omega
  rw [if_neg h2] at h
  by_cases h3 : rngOk (takes k) a b c = false
  · rw [if_pos h3] at h; omega
  rw [if_neg h3] at h
  by_cases h4 : okOf k v n a b c = false ∨ (k ≠ 21 ∧ n ≠ 0)
  · rw [if_pos h4] at h; omega
  refine ⟨btw_true.1 (by simpa using h2), by simpa using h3, ?_, ?_, shape_pos (fun e => h1 ((takes_shape k).2 e))⟩
  · apply Classical.byContradiction
    intro hn
    exact h4 (Or.inl (by simpa using hn))
  · apply Classical.byContradiction
    intro hn
    exact h4 (Or.inr (by omega))

theorem emod_small {x m : Int} (h0 : 0 ≤ x) (h1 : x < m) : x % m = x := Int.emod_eq_of_lt h0 h1

theorem m4 (v a b c n wa wb : Int) (h0 : 0 ≤ a) (h1 : a < two v) : (- a - 1) % two v = madeE 4 v a b c n wa wb := by
  show _ = two v - 1 - a
  have : - a - 1 = (two v - 1 - a) + two v * (-1) := by omega
  rw [this, Int.add_mul_emod_self_left, emod_small (by omega) (by omega)]
theorem m5 (v a b c n wa wb : Int) : (- a) % two v = madeE 5 v a b c n wa wb := by
  show _ = (two v - a) % two v
  have : two v - a = - a + two v * 1 := by omega
  rw [this, Int.add_mul_emod_self_left]
theorem two_nat (v : Int) : two v = ((2 ^ v.toNat : Nat) : Int) := by simp [two]
theorem m6 (v a b c n wa wb : Int) (g0 : 0 ≤ b) (g1 : b < two v) : ((a.toNat &&& b.toNat : Nat) : Int) % two v = madeE 6 v a b c n wa wb := by
  show _ = ((a.toNat &&& b.toNat : Nat) : Int)
  have : a.toNat &&& b.toNat < 2 ^ v.toNat := Nat.and_lt_two_pow _ (by rw [two_nat] at g1; omega)
  exact emod_small (by omega) (by rw [two_nat]; omega)
theorem m7 (v a b c n wa wb : Int) (h0 : 0 ≤ a) (h1 : a < two v) (g0 : 0 ≤ b) (g1 : b < two v) : ((a.toNat ||| b.toNat : Nat) : Int) % two v = madeE 7 v a b c n wa wb := by
  show _ = ((a.toNat ||| b.toNat : Nat) : Int)
  have : a.toNat ||| b.toNat < 2 ^ v.toNat := Nat.or_lt_two_pow (by rw [two_nat] at h1; omega) (by rw [two_nat] at g1; omega)
  exact emod_small (by omega) (by rw [two_nat]; omega)
theorem m8 (v a b c n wa wb : Int) (h0 : 0 ≤ a) (h1 : a < two v) (g0 : 0 ≤ b) (g1 : b < two v) : ((a.toNat ^^^ b.toNat : Nat) : Int) % two v = madeE 8 v a b c n wa wb := by
  show _ = ((a.toNat ^^^ b.toNat : Nat) : Int)
  have : a.toNat ^^^ b.toNat < 2 ^ v.toNat := Nat.xor_lt_two_pow (by rw [two_nat] at h1; omega) (by rw [two_nat] at g1; omega)
  exact emod_small (by omega) (by rw [two_nat]; omega)
theorem m9 (v a b c n wa wb : Int) : (a + b) % two v = madeE 9 v a b c n wa wb := rfl
theorem m10 (v a b c n wa wb : Int) : (a - b) % two v = madeE 10 v a b c n wa wb := by
  show _ = (a + two v - b) % two v
  have : a + two v - b = a - b + two v * 1 := by omega
  rw [this, Int.add_mul_emod_self_left]
theorem m11 (v a b c n wa wb : Int) : (a * b) % two v = madeE 11 v a b c n wa wb := rfl
theorem m12 (v a b c n wa wb : Int) (h0 : 0 ≤ a) (h1 : a < two v) (g0 : 0 ≤ b) : divE a b % two v = madeE 12 v a b c n wa wb := by
  show _ = if b = 0 then two v - 1 else a / b
  unfold divE
  by_cases hb : b = 0
  · rw [if_pos hb, if_pos hb]
    have : (-1 : Int) = (two v - 1) + two v * (-1) := by omega
    rw [this, Int.add_mul_emod_self_left, emod_small (by omega) (by omega)]
  · rw [if_neg hb, if_neg hb]
    have := Int.ediv_le_self b h0
    have := Int.ediv_nonneg h0 g0
    exact emod_small (by omega) (by omega)
theorem m13 (v a b c n wa wb : Int) (h0 : 0 ≤ a) (h1 : a < two v) (g0 : 0 ≤ b) (g1 : b < two v) : remE a b % two v = madeE 13 v a b c n wa wb := by
  show _ = if b = 0 then a else a % b
  unfold remE
  by_cases hb : b = 0
  · rw [if_pos hb]
    exact emod_small (by omega) (by omega)
  · rw [if_neg hb]
    have := Int.emod_lt_of_pos a (show 0 < b from by omega)
    have := Int.emod_nonneg a hb
    exact emod_small (by omega) (by omega)
theorem two_pos (v : Int) : 0 < two v := Int.pow_pos (by decide)
theorem m14 (v a b c n wa wb : Int) : shlE v a b % two v = madeE 14 v a b c n wa wb := by
  show _ = if v ≤ b then 0 else a * two b % two v
  unfold shlE
  by_cases hb : v ≤ b
  · rw [if_pos hb, if_pos hb]; rfl
  · rw [if_neg hb, if_neg hb]
theorem m15 (v a b c n wa wb : Int) (h0 : 0 ≤ a) (h1 : a < two v) : shrE v a b % two v = madeE 15 v a b c n wa wb := by
  show _ = if v ≤ b then 0 else a / two b
  unfold shrE
  by_cases hb : v ≤ b
  · rw [if_pos hb]; rfl
  · rw [if_neg hb]
    have := Int.ediv_le_self (two b) h0
    have := Int.ediv_nonneg h0 (Int.le_of_lt (two_pos b))
    exact emod_small (by omega) (by omega)
theorem m23 (v a b c n wa wb : Int) : sgn a wa % two v = madeE 23 v a b c n wa wb := by
  show _ = (sgn a wa + two v) % two v
  have : sgn a wa + two v = sgn a wa + two v * 1 := by omega
  rw [this, Int.add_mul_emod_self_left]

end Go.Proofs.YtjhkecnnhddhbaaGreatDoor.Ev
