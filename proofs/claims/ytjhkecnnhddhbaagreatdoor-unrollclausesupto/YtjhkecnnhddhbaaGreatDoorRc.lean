/- The plain text's Made, where all is right. -/
import Derived.Test.YtjhkecnnhddhbaaGreatDoorRb
import Derived.Test.YtjhkecnnhddhbaaGreatDoorXa
namespace Go.Proofs.YtjhkecnnhddhbaaGreatDoor.Ev
open Go.RowKit
set_option maxRecDepth 100000
set_option maxRecDepth 100000

theorem two_mono (i j : Int) (h0 : 0 ≤ i) (h : i ≤ j) : two i ≤ two j := by
  obtain ⟨x, rfl⟩ := Int.eq_ofNat_of_zero_le h0
  obtain ⟨y, rfl⟩ := Int.eq_ofNat_of_zero_le (show 0 ≤ j from by omega)
  exact two_le x y (by omega)

theorem sgn_bd (a v : Int) (ha : 0 ≤ a) (ha2 : a < two v) : - two v ≤ sgn a v ∧ sgn a v < two v := by
  unfold sgn
  split <;> omega

theorem bw_val (f : Nat → Nat → Nat) (h : ∀ v a b, f a b / 2 ^ v % 2 = f (a / 2 ^ v % 2) (b / 2 ^ v % 2)) (v a b : Nat) (hl : f a b < 2 ^ v) : bwN f v a b = f a b := by
  rw [bw_is f h, Nat.mod_eq_of_lt hl]

end Go.Proofs.YtjhkecnnhddhbaaGreatDoor.Ev
