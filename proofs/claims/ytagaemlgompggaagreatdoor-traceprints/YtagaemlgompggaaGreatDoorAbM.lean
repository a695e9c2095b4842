/- The small calls of the plain text: Two, Bit, Signed, yes; and choose. -/
import Derived.Test.YtagaemlgompggaaGreatDoorVf
import Derived.Deep.QuietTactic
import Derived.BigQuiet
import Derived.Deep.RegionWith
namespace Go.Proofs.YtagaemlgompggaaGreatDoor.Ev
open Go.RowKit
set_option maxRecDepth 100000

theorem two_succ (j : Nat) : two ((j : Int) + 1) = 2 * two j := by
  unfold two
  rw [show ((j : Int) + 1).toNat = j + 1 from by omega, show ((j : Int)).toNat = j from by omega, Int.pow_succ]
  omega

theorem two_le (i j : Nat) (h : i ≤ j) : two i ≤ two j := by
  rw [two_nat, two_nat]
  have := Nat.pow_le_pow_right (n := 2) (by omega) h
  simp only [Int.toNat_natCast]
  omega

theorem two_60 : two ((60 : Nat) : Int) = 1152921504606846976 := by rfl

/-- Which of n things a raw number speaks of. -/
def pick (c n : Int) : Int := if c < 0 then (- (c + 1)) % n else c % n
theorem pick_bd (c n : Int) (hn : 0 < n) : 0 ≤ pick c n ∧ pick c n < n := by
  unfold pick
  split
  · exact ⟨Int.emod_nonneg _ (by omega), Int.emod_lt_of_pos _ hn⟩
  · exact ⟨Int.emod_nonneg _ (by omega), Int.emod_lt_of_pos _ hn⟩

end Go.Proofs.YtagaemlgompggaaGreatDoor.Ev

namespace Go.Proofs.YtagaemlgompggaaGreatDoor.Ev
open Go.RowKit
set_option maxRecDepth 100000

/-- The upmost bit, and being less than it. -/
theorem top_bit (a v : Int) (hv : 1 ≤ v ∧ v ≤ 8) (ha : 0 ≤ a) (ha2 : a < two v) : (a / two (v - 1) % 2 = 0 ∧ sgn a v = a) ∨ (a / two (v - 1) % 2 = 1 ∧ sgn a v = a - two v) := by
  have : v = 1 ∨ v = 2 ∨ v = 3 ∨ v = 4 ∨ v = 5 ∨ v = 6 ∨ v = 7 ∨ v = 8 := by omega
  by_cases hc : a < two (v - 1)
  · left
    refine ⟨?_, by unfold sgn; rw [if_pos hc]⟩
    rw [Int.ediv_eq_zero_of_lt ha hc]
    rfl
  · right
    refine ⟨?_, by unfold sgn; rw [if_neg hc]⟩
    rcases this with rfl | rfl | rfl | rfl | rfl | rfl | rfl | rfl <;> simp [two] at hc ha2 ⊢ <;> omega

/-- Each bit by a function of two bits. -/
def bwN (f : Nat → Nat → Nat) : Nat → Nat → Nat → Nat
  | 0, _, _ => 0
  | v + 1, a, b => bwN f v a b + f (a / 2 ^ v % 2) (b / 2 ^ v % 2) * 2 ^ v

theorem bw_is (f : Nat → Nat → Nat) (h : ∀ v a b, f a b / 2 ^ v % 2 = f (a / 2 ^ v % 2) (b / 2 ^ v % 2)) (v a b : Nat) : bwN f v a b = f a b % 2 ^ v := by
  induction v with
  | zero => simp [bwN, Nat.mod_one]
  | succ v ih => rw [bwN, ih, Nat.mod_pow_succ, h, Nat.mul_comm]

theorem and_bits (v a b : Nat) : (a &&& b) / 2 ^ v % 2 = (a / 2 ^ v % 2) &&& (b / 2 ^ v % 2) := by
  rw [Nat.and_div_two_pow]
  exact Nat.and_mod_two_pow (n := 1)
theorem or_bits (v a b : Nat) : (a ||| b) / 2 ^ v % 2 = (a / 2 ^ v % 2) ||| (b / 2 ^ v % 2) := by
  rw [Nat.or_div_two_pow]
  exact Nat.or_mod_two_pow (n := 1)
theorem xor_bits (v a b : Nat) : (a ^^^ b) / 2 ^ v % 2 = (a / 2 ^ v % 2) ^^^ (b / 2 ^ v % 2) := by
  rw [Nat.xor_div_two_pow]
  exact Nat.xor_mod_two_pow (n := 1)

theorem bit_nat (a j : Nat) : (a : Int) / two j % 2 = ((a / 2 ^ j % 2 : Nat) : Int) := by
  rw [two_nat]
  simp

theorem two_cast (j : Nat) : two (j : Int) = ((2 ^ j : Nat) : Int) := by rw [two_nat]; simp

end Go.Proofs.YtagaemlgompggaaGreatDoor.Ev

namespace Go.Proofs.YtagaemlgompggaaGreatDoor.Ev
open Go.RowKit
set_option maxRecDepth 100000

theorem fitE_begun : fitE 9 4 0 4 4 0 = 0 := by decide
theorem apE_begun : apE 9 4 9 9 0 0 4 4 0 = 0 := by decide
theorem apV_begun : apV 9 4 9 9 0 0 4 4 0 = 2 := by decide

/-- From one world to the next, below what was there first. -/
theorem bthen {w w1 w2 : World} (h : Below w.heap.size w w1) (k : Below w1.heap.size w1 w2) : Below w.heap.size w w2 := h.trans (k.mono h.size)

end Go.Proofs.YtagaemlgompggaaGreatDoor.Ev

namespace Go.Proofs.YtagaemlgompggaaGreatDoor.Ev
open Go.RowKit
set_option maxRecDepth 100000

theorem two_mono (i j : Int) (h0 : 0 ≤ i) (h : i ≤ j) : two i ≤ two j := by
  obtain ⟨x, rfl⟩ := Int.eq_ofNat_of_zero_le h0
  obtain ⟨y, rfl⟩ := Int.eq_ofNat_of_zero_le (show 0 ≤ j from by omega)
  exact two_le x y (by omega)

theorem sgn_bd (a v : Int) (ha : 0 ≤ a) (ha2 : a < two v) : - two v ≤ sgn a v ∧ sgn a v < two v := by
  unfold sgn
  split <;> omega

theorem bw_val (f : Nat → Nat → Nat) (h : ∀ v a b, f a b / 2 ^ v % 2 = f (a / 2 ^ v % 2) (b / 2 ^ v % 2)) (v a b : Nat) (hl : f a b < 2 ^ v) : bwN f v a b = f a b := by
  rw [bw_is f h, Nat.mod_eq_of_lt hl]

end Go.Proofs.YtagaemlgompggaaGreatDoor.Ev

namespace Go.Proofs.YtagaemlgompggaaGreatDoor.Ev
open Go.RowKit
set_option maxRecDepth 100000


end Go.Proofs.YtagaemlgompggaaGreatDoor.Ev

namespace Go.Proofs.YtagaemlgompggaaGreatDoor.Ev
open Go.RowKit
set_option maxRecDepth 100000

abbrev ap (w : World) (b o : Nat) (x : Int) : Prop := w.cell? ⟨b, o, none⟩ = some (.int .i64 x)
/-- What lies in memory while the law goes on: the words, their widths, and the list of words. -/
def AppF (w wr : World) (S : Nat) (a b c wa wb wc : Int) : Prop :=
  Below w.heap.size w wr ∧ (ap wr w.heap.size 0 a ∧ ap wr w.heap.size 1 b ∧ ap wr w.heap.size 2 c) ∧ (ap wr (w.heap.size + 1) 0 wa ∧ ap wr (w.heap.size + 1) 1 wb ∧ ap wr (w.heap.size + 1) 2 wc) ∧ (ap wr S 0 a ∧ ap wr S 1 b ∧ ap wr S 2 c)

theorem AppF.drew {w wr : World} {S : Nat} {a b c wa wb wc : Int} (h : AppF w wr S a b c wa wb wc) (n : Nat) : AppF w (wr.drewN n) S a b c wa wb wc :=
  ⟨below_drewN h.1 n, h.2⟩

/-- Is the word at a place one of its width? -/
def goodAt (a b c wa wb wc : Int) (i : Nat) : Prop := (if i = 0 then isW a wa else if i = 1 then isW b wb else isW c wc) = true
theorem good_step {a b c wa wb wc : Int} {j : Nat} (h : ∀ i : Nat, i < j → goodAt a b c wa wb wc i) (hj : goodAt a b c wa wb wc j) : ∀ i : Nat, i < j + 1 → goodAt a b c wa wb wc i := by
  intro i hi
  rcases Nat.lt_succ_iff_lt_or_eq.1 hi with h1 | rfl
  · exact h i h1
  · exact hj
theorem good_all {a b c wa wb wc : Int} (h : ∀ i : Nat, i < 3 → goodAt a b c wa wb wc i) : isW a wa = true ∧ isW b wb = true ∧ isW c wc = true :=
  ⟨h 0 (by omega), h 1 (by omega), h 2 (by omega)⟩
theorem rng_one {a b c : Int} (h : rngOk 1 a b c = true) : (1 ≤ a ∧ a ≤ 8) ∧ b = 0 ∧ c = 0 := by
  simp [rngOk, btw] at h
  omega
theorem rng_two {a b c : Int} (h : rngOk 2 a b c = true) : (1 ≤ a ∧ a ≤ 8) ∧ (1 ≤ b ∧ b ≤ 8) ∧ c = 0 := by
  simp [rngOk, btw] at h
  omega
theorem rng_three {a b c : Int} (h : rngOk 3 a b c = true) : (1 ≤ a ∧ a ≤ 8) ∧ (1 ≤ b ∧ b ≤ 8) ∧ (1 ≤ c ∧ c ≤ 8) := by
  simp [rngOk, btw] at h
  omega

end Go.Proofs.YtagaemlgompggaaGreatDoor.Ev
