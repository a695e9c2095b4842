/- WordApplies: the plain text's Made, whatever the kind; and the law's walk. -/
import Derived.Test.YtjhkecnnhddhbaaGreatDoorRd
namespace Go.Proofs.YtjhkecnnhddhbaaGreatDoor.Ev
open Go.RowKit
set_option maxRecDepth 100000
set_option maxRecDepth 100000

abbrev ap (w : World) (b o : Nat) (x : Int) : Prop := w.cell? ⟨b, o, none⟩ = some (.int .i64 x)
/-- What lies in memory while the law goes on: the words, their widths, and the list of words. -/
def AppF (w wr : World) (S : Nat) (a b c wa wb wc : Int) : Prop :=
  Below w.heap.size w wr ∧ (ap wr w.heap.size 0 a ∧ ap wr w.heap.size 1 b ∧ ap wr w.heap.size 2 c) ∧ (ap wr (w.heap.size + 1) 0 wa ∧ ap wr (w.heap.size + 1) 1 wb ∧ ap wr (w.heap.size + 1) 2 wc) ∧ (ap wr S 0 a ∧ ap wr S 1 b ∧ ap wr S 2 c)

theorem AppF.drew {w wr : World} {S : Nat} {a b c wa wb wc : Int} (h : AppF w wr S a b c wa wb wc) (n : Nat) : AppF w (wr.drewN n) S a b c wa wb wc :=
  ⟨below_drewN h.1 n, h.2⟩

/-- Is the word at a place one of its width? -/
def goodAt (a b c wa wb wc : Int) (i : Nat) : Prop := (if i = 0 then isW a wa else if i = 1 then isW b wb else isW c wc) = true
theorem good_step {a b c wa wb wc : Int} {j : Nat} (h : ∀ i : Nat, i < j → goodAt a b c wa wb wc i) (hj : goodAt a b c wa wb wc j) : ∀ i : Nat, i < j + 1 → goodAt a b c wa wb wc i := by
  intro i hi
  rcases Nat.lt_succ_iff_lt_or_eq.1 hi with h1 | rfl
  · exact h i h1
  · exact hj
theorem good_all {a b c wa wb wc : Int} (h : ∀ i : Nat, i < 3 → goodAt a b c wa wb wc i) : isW a wa = true ∧ isW b wb = true ∧ isW c wc = true :=
  ⟨h 0 (by omega), h 1 (by omega), h 2 (by omega)⟩
theorem rng_one {a b c : Int} (h : rngOk 1 a b c = true) : (1 ≤ a ∧ a ≤ 8) ∧ b = 0 ∧ c = 0 := by
  simp [rngOk, btw] at h
  omega
theorem rng_two {a b c : Int} (h : rngOk 2 a b c = true) : (1 ≤ a ∧ a ≤ 8) ∧ (1 ≤ b ∧ b ≤ 8) ∧ c = 0 := by
  simp [rngOk, btw] at h
  omega
theorem rng_three {a b c : Int} (h : rngOk 3 a b c = true) : (1 ≤ a ∧ a ≤ 8) ∧ (1 ≤ b ∧ b ≤ 8) ∧ (1 ≤ c ∧ c ≤ 8) := by
  simp [rngOk, btw] at h
  omega

end Go.Proofs.YtjhkecnnhddhbaaGreatDoor.Ev
