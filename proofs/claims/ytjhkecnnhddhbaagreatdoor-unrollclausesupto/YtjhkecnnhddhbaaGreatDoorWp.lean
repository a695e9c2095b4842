/- Plain: the two ways to say what Fit returns are one. -/
import Derived.Test.YtjhkecnnhddhbaaGreatDoorWd
namespace Go.Proofs.YtjhkecnnhddhbaaGreatDoor.Ev

theorem met1 (own n a b c : Int) : metOk 0 2 0 0 own n a b c = (a == own) := by simp [metOk, askOk]
theorem met2 (own n a b c : Int) : metOk 0 2 2 0 own n a b c = (a == own && b == own) := by simp [metOk, askOk]
theorem met3 (own n a b c : Int) : metOk 1 0 3 0 own n a b c = (own == 1 && b == a) := by simp [metOk, askOk]
theorem met4 (own n a b c : Int) : metOk 0 1 2 2 own n a b c = (a == 1 && b == own && c == own) := by simp [metOk, askOk]
theorem met5 (own n a b c : Int) : metOk 0 0 4 0 own n a b c = (b == own - a) := by simp [metOk, askOk]
theorem met6 (own n a b c : Int) : metOk 0 5 0 0 own n a b c = (decide (0 ≤ n) && decide (n ≤ a - own)) := by simp [metOk, askOk]
theorem met7 (own n a b c : Int) : metOk 0 6 0 0 own n a b c = decide (a ≤ own) := by simp [metOk, askOk]

theorem takes_shape (k : Int) : takes k = 0 ↔ shape k = 0 := by
  unfold takes shape
  (repeat' split) <;> omega

theorem shape_pos {k : Int} (hs : shape k ≠ 0) : 4 ≤ k ∧ k ≤ 23 := by
  apply Classical.byContradiction
  intro hn
  exact hs (by unfold shape; rw [if_pos hn])

theorem met_ok (k own n a b c : Int) (hs : shape k ≠ 0) (h : 1 ≤ own ∧ own ≤ 8) (ha : 0 ≤ a ∧ a ≤ 8) : metS (shape k) own n a b c = okOf k own n a b c := by
  have hk := shape_pos hs
  clear hs
  unfold metS okOf
  rw [met1, met2, met3, met4, met5, met6, met7]
  rw [Bool.eq_iff_iff]
  by_cases h5 : k ≤ 5
  · have e : shape k = 1 := by unfold shape; (repeat' split) <;> omega
    rw [e]
    simp [show k = 4 ∨ k = 5 from by omega]
  by_cases h15 : k ≤ 15
  · have e : shape k = 2 := by unfold shape; (repeat' split) <;> omega
    rw [e]
    simp [show ¬ (k = 4 ∨ k = 5) from by omega, show 6 ≤ k ∧ k ≤ 15 from by omega]
  by_cases h18 : k ≤ 18
  · have e : shape k = 3 := by unfold shape; (repeat' split) <;> omega
    rw [e]
    simp [show ¬ (k = 4 ∨ k = 5) from by omega, show ¬ (6 ≤ k ∧ k ≤ 15) from by omega, show 16 ≤ k ∧ k ≤ 18 from by omega]; omega
  by_cases h19 : k = 19
  · have e : shape k = 4 := by unfold shape; (repeat' split) <;> omega
    rw [e]
    simp [h19]
  by_cases h20 : k = 20
  · have e : shape k = 5 := by unfold shape; (repeat' split) <;> omega
    rw [e]
    simp [h20]; omega
  by_cases h21 : k = 21
  · have e : shape k = 6 := by unfold shape; (repeat' split) <;> omega
    rw [e]
    simp [h21]; omega
  · have e : shape k = 7 := by unfold shape; (repeat' split) <;> omega
    rw [e]
    simp [h19, h20, h21, show ¬ (k = 4 ∨ k = 5) from by omega, show ¬ (6 ≤ k ∧ k ≤ 15) from by omega, show ¬ (16 ≤ k ∧ k ≤ 18) from by omega]

theorem ref_fit (k own n a b c : Int) : refE k own n a b c = fitE k own n a b c := by
  unfold refE fitE
  by_cases hs : shape k = 0
  · rw [if_pos ((takes_shape k).2 hs), if_pos hs]
  rw [if_neg (fun h => hs ((takes_shape k).1 h)), if_neg hs]
  by_cases hb : btw own 1 8 = false
  · rw [if_pos hb, if_pos hb]
  rw [if_neg hb, if_neg hb]
  by_cases hr : rngOk (takes k) a b c = false
  · rw [if_pos hr, if_pos hr]
  rw [if_neg hr, if_neg hr]
  have hb' : btw own 1 8 = true := by simpa using hb
  have hr' : rngOk (takes k) a b c = true := by simpa using hr
  rw [met_ok k own n a b c hs (btw_true.1 hb') (rng_bd hr').1]
  cases okOf k own n a b c <;> by_cases hk : k ≠ 21 ∧ n ≠ 0 <;> simp [hk]

end Go.Proofs.YtjhkecnnhddhbaaGreatDoor.Ev
