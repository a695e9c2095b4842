/- The plain text's Bit, Signed, yes and bitwise. -/
import Derived.Test.YtjhkecnnhddhbaaGreatDoorRa
namespace Go.Proofs.YtjhkecnnhddhbaaGreatDoor.Ev
open Go.RowKit
set_option maxRecDepth 100000
set_option maxRecDepth 100000

/-- The upmost bit, and being less than it. -/
theorem top_bit (a v : Int) (hv : 1 ≤ v ∧ v ≤ 8) (ha : 0 ≤ a) (ha2 : a < two v) : (a / two (v - 1) % 2 = 0 ∧ sgn a v = a) ∨ (a / two (v - 1) % 2 = 1 ∧ sgn a v = a - two v) := by
  have : v = 1 ∨ v = 2 ∨ v = 3 ∨ v = 4 ∨ v = 5 ∨ v = 6 ∨ v = 7 ∨ v = 8 := by omega
  by_cases hc : a < two (v - 1)
  · left
    refine ⟨?_, by unfold sgn; rw [if_pos hc]⟩
    rw [Int.ediv_eq_zero_of_lt ha hc]
    rfl
  · right
    refine ⟨?_, by unfold sgn; rw [if_neg hc]⟩
    rcases this with rfl | rfl | rfl | rfl | rfl | rfl | rfl | rfl <;> simp [two] at hc ha2 ⊢ <;> omega

/-- Each bit by a function of two bits. -/
def bwN (f : Nat → Nat → Nat) : Nat → Nat → Nat → Nat
  | 0, _, _ => 0
  | v + 1, a, b => bwN f v a b + f (a / 2 ^ v % 2) (b / 2 ^ v % 2) * 2 ^ v

theorem bw_is (f : Nat → Nat → Nat) (h : ∀ v a b, f a b / 2 ^ v % 2 = f (a / 2 ^ v % 2) (b / 2 ^ v % 2)) (v a b : Nat) : bwN f v a b = f a b % 2 ^ v := by
  induction v with
  | zero => simp [bwN, Nat.mod_one]
  | succ v ih => rw [bwN, ih, Nat.mod_pow_succ, h, Nat.mul_comm]

theorem and_bits (v a b : Nat) : (a &&& b) / 2 ^ v % 2 = (a / 2 ^ v % 2) &&& (b / 2 ^ v % 2) := by
  rw [Nat.and_div_two_pow]
  exact Nat.and_mod_two_pow (n := 1)
theorem or_bits (v a b : Nat) : (a ||| b) / 2 ^ v % 2 = (a / 2 ^ v % 2) ||| (b / 2 ^ v % 2) := by
  rw [Nat.or_div_two_pow]
  exact Nat.or_mod_two_pow (n := 1)
theorem xor_bits (v a b : Nat) : (a ^^^ b) / 2 ^ v % 2 = (a / 2 ^ v % 2) ^^^ (b / 2 ^ v % 2) := by
  rw [Nat.xor_div_two_pow]
  exact Nat.xor_mod_two_pow (n := 1)

theorem bit_nat (a j : Nat) : (a : Int) / two j % 2 = ((a / 2 ^ j % 2 : Nat) : Int) := by
  rw [two_nat]
  simp

theorem two_cast (j : Nat) : two (j : Int) = ((2 ^ j : Nat) : Int) := by rw [two_nat]; simp

end Go.Proofs.YtjhkecnnhddhbaaGreatDoor.Ev
