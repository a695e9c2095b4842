/- The small calls of the plain text: Two, Bit, Signed, yes; and choose. -/
import Derived.Test.YtjhkecnnhddhbaaGreatDoorVf
import Derived.Deep.QuietTactic
import Derived.BigQuiet
namespace Go.Proofs.YtjhkecnnhddhbaaGreatDoor.Ev
open Go.RowKit
set_option maxRecDepth 100000
set_option maxRecDepth 100000

theorem two_succ (j : Nat) : two ((j : Int) + 1) = 2 * two j := by
  unfold two
  rw [show ((j : Int) + 1).toNat = j + 1 from by omega, show ((j : Int)).toNat = j from by omega, Int.pow_succ]
  omega

theorem two_le (i j : Nat) (h : i ≤ j) : two i ≤ two j := by
  rw [two_nat, two_nat]
  have := Nat.pow_le_pow_right (n := 2) (by omega) h
  simp only [Int.toNat_natCast]
  omega

theorem two_60 : two ((60 : Nat) : Int) = 1152921504606846976 := by rfl

/-- Which of n things a raw number speaks of. -/
def pick (c n : Int) : Int := if c < 0 then (- (c + 1)) % n else c % n
theorem pick_bd (c n : Int) (hn : 0 < n) : 0 ≤ pick c n ∧ pick c n < n := by
  unfold pick
  split
  · exact ⟨Int.emod_nonneg _ (by omega), Int.emod_lt_of_pos _ hn⟩
  · exact ⟨Int.emod_nonneg _ (by omega), Int.emod_lt_of_pos _ hn⟩

end Go.Proofs.YtjhkecnnhddhbaaGreatDoor.Ev
