/- The small calls of the plain text: Two, Bit, Signed, yes; and choose. -/
import Derived.Test.YtabnimgpednhjaaVf
import Derived.Deep.QuietTactic
import Derived.BigQuiet
namespace Go.Proofs.Ytabnimgpednhjaa
open Go.RowKit

theorem two_succ (j : Nat) : two ((j : Int) + 1) = 2 * two j := by
  unfold two
  rw [show ((j : Int) + 1).toNat = j + 1 from by omega, show ((j : Int)).toNat = j from by omega, Int.pow_succ]
  omega

theorem two_le (i j : Nat) (h : i ≤ j) : two i ≤ two j := by
  rw [two_nat, two_nat]
  have := Nat.pow_le_pow_right (n := 2) (by omega) h
  simp only [Int.toNat_natCast]
  omega

theorem two_60 : two ((60 : Nat) : Int) = 1152921504606846976 := by rfl

set_option maxHeartbeats 400000 in
theorem two_any (v : Int) (h0 : 0 ≤ v) (h1 : v ≤ 60) (w : World) :
    Calls Try.prog 16 #[.int .i64 v] w fun e w' => e = .returned (.int .i64 (two v)) ∧ w' = w := by
  obtain ⟨k, rfl⟩ := Int.eq_ofNat_of_zero_le h0
  have hk : k ≤ 60 := by omega
  clear h0 h1
  go_enter Try.func16, Try.ntmps16
  go_wp2
  go_loop [3, 4] (fun o i => ∃ j : Nat, j ≤ k ∧ i = .int .i64 j ∧ o = .int .i64 (two j)) (fun _ i => k - (intOf i).toNat)
  case atStart => exact ⟨0, Nat.zero_le _, rfl, rfl⟩
  case round =>
    obtain ⟨j, hj, rfl, rfl⟩ := hrel
    by_cases hlt : j < k
    · have hb := two_le j 60 (by omega)
      rw [two_60] at hb
      have hp := two_pos (j : Int)
      have HS : Hid (two ((j : Int) + 1) = 2 * two j) := two_succ j
      go_wp2
      go_round
      case rel => exact ⟨j + 1, by omega, by go_num, by rw [show ((j + 1 : Nat) : Int) = (j : Int) + 1 from by omega, HS.out]⟩
      case measure => simp [intOf]; omega
    · obtain rfl : j = k := by omega
      go_wp2
      go_ret
      exact ⟨rfl, rfl⟩

/-- Which of n things a raw number speaks of. -/
def pick (c n : Int) : Int := if c < 0 then (- (c + 1)) % n else c % n
theorem pick_bd (c n : Int) (hn : 0 < n) : 0 ≤ pick c n ∧ pick c n < n := by
  unfold pick
  split
  · exact ⟨Int.emod_nonneg _ (by omega), Int.emod_lt_of_pos _ hn⟩
  · exact ⟨Int.emod_nonneg _ (by omega), Int.emod_lt_of_pos _ hn⟩

set_option maxHeartbeats 400000 in
theorem choose_any (c n : Int) (h0 : -9223372036854775808 ≤ c) (h1 : c ≤ 9223372036854775807) (hn : 0 < n) (hn2 : n ≤ 9223372036854775807) (w : World) :
    Calls Try.prog 18 #[.int .i64 c, .int .i64 n] w fun e w' => e = .returned (.int .i64 (pick c n)) ∧ w' = w := by
  have hne : ¬ n = 0 := by omega
  by_cases hc : c < 0
  · have HP : Hid (pick c n = (- (c + 1)) % n) := by unfold pick; rw [if_pos hc]; rfl
    go_enter Try.func18, Try.ntmps18
    go_wp2
    go_ret
    exact ⟨ret_int (by rw [HP.out, ← Int.neg_tmod, Int.tmod_eq_emod_of_nonneg (by omega)]), rfl⟩
  · have HP : Hid (pick c n = c % n) := by unfold pick; rw [if_neg hc]; rfl
    go_enter Try.func18, Try.ntmps18
    go_wp2
    go_ret
    exact ⟨ret_int HP.out.symm, rfl⟩

end Go.Proofs.Ytabnimgpednhjaa
