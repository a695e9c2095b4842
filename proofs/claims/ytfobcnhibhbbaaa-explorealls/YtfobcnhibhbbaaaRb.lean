/- The plain text's Bit, Signed, yes and bitwise. -/
import Derived.Test.YtfobcnhibhbbaaaMeM
namespace Go.Proofs.Ytfobcnhibhbbaaa
open Go.RowKit
set_option maxRecDepth 100000

theorem bit_any (a j : Int) (ha : 0 ≤ a) (ha2 : a < 256) (hj : 0 ≤ j) (hj2 : j ≤ 8) (w : World) :
    Calls Try.prog 78 #[.int .i64 a, .int .i64 j] w fun e w' => e = .returned (.int .i64 (a / two j % 2)) ∧ w' = w := by
  have ht := two_bd (v := j) (by omega)
  have hne : ¬ two j = 0 := by omega
  have h1 := Int.ediv_nonneg ha (show 0 ≤ two j from by omega)
  have h2 := Int.ediv_le_self (two j) ha
  go_enter Try.func78, Try.ntmps78
  go_wp2_with (go_at_call 23; refine (two_any _ (by omega) (by omega) _).mono ?_; rintro e w' ⟨rfl, rfl⟩)
  go_ret
  exact ⟨rfl, rfl⟩

theorem yes_any (b : Bool) (w : World) :
    Calls Try.prog 65 #[.bool b] w fun e w' => e = .returned (.int .i64 (yesOf b)) ∧ w' = w := by
  cases b
  all_goals
    go_enter Try.func65, Try.ntmps65
    go_wp2
    go_ret
    exact ⟨rfl, rfl⟩

/-- The upmost bit, and being less than it. -/
theorem top_bit (a v : Int) (hv : 1 ≤ v ∧ v ≤ 8) (ha : 0 ≤ a) (ha2 : a < two v) : (a / two (v - 1) % 2 = 0 ∧ sgn a v = a) ∨ (a / two (v - 1) % 2 = 1 ∧ sgn a v = a - two v) := by
  have : v = 1 ∨ v = 2 ∨ v = 3 ∨ v = 4 ∨ v = 5 ∨ v = 6 ∨ v = 7 ∨ v = 8 := by omega
  by_cases hc : a < two (v - 1)
  · left
    refine ⟨?_, by unfold sgn; rw [if_pos hc]⟩
    rw [Int.ediv_eq_zero_of_lt ha hc]
    rfl
  · right
    refine ⟨?_, by unfold sgn; rw [if_neg hc]⟩
    rcases this with rfl | rfl | rfl | rfl | rfl | rfl | rfl | rfl <;> simp [two] at hc ha2 ⊢ <;> omega

set_option maxHeartbeats 400000 in
theorem signedR_any (a v : Int) (hv : 1 ≤ v ∧ v ≤ 8) (ha : 0 ≤ a) (ha2 : a < two v) (w : World) :
    Calls Try.prog 66 #[.int .i64 a, .int .i64 v] w fun e w' => e = .returned (.int .i64 (sgn a v)) ∧ w' = w := by
  have hb := two_bd (v := v) (by omega)
  have h2 : a < 256 := by omega
  rcases top_bit a v hv ha ha2 with ⟨h, hs⟩ | ⟨h, hs⟩
  · rw [hs]
    have HB : Hid (∀ w, Calls Try.prog 78 #[.int .i64 a, .int .i64 (v - 1)] w fun e w' => e = .returned (.int .i64 0) ∧ w' = w) := by
      intro w
      have := bit_any a (v - 1) ha h2 (by omega) (by omega) w
      rw [h] at this
      exact this
    clear h hs
    go_enter Try.func66, Try.ntmps66
    go_wp2_with (go_at_call 78; refine (HB.out _).mono ?_; rintro e w' ⟨rfl, rfl⟩)
    go_ret
    exact ⟨rfl, rfl⟩
  · rw [hs]
    have HB : Hid (∀ w, Calls Try.prog 78 #[.int .i64 a, .int .i64 (v - 1)] w fun e w' => e = .returned (.int .i64 1) ∧ w' = w) := by
      intro w
      have := bit_any a (v - 1) ha h2 (by omega) (by omega) w
      rw [h] at this
      exact this
    clear h hs
    go_enter Try.func66, Try.ntmps66
    go_wp2_with (first | (go_at_call 78; refine (HB.out _).mono ?_; rintro e w' ⟨rfl, rfl⟩) | (go_at_call 23; refine (two_any _ (by omega) (by omega) _).mono ?_; rintro e w' ⟨rfl, rfl⟩))
    go_ret
    exact ⟨rfl, rfl⟩

/-- Each bit by a function of two bits. -/
def bwN (f : Nat → Nat → Nat) : Nat → Nat → Nat → Nat
  | 0, _, _ => 0
  | v + 1, a, b => bwN f v a b + f (a / 2 ^ v % 2) (b / 2 ^ v % 2) * 2 ^ v

theorem bw_is (f : Nat → Nat → Nat) (h : ∀ v a b, f a b / 2 ^ v % 2 = f (a / 2 ^ v % 2) (b / 2 ^ v % 2)) (v a b : Nat) : bwN f v a b = f a b % 2 ^ v := by
  induction v with
  | zero => simp [bwN, Nat.mod_one]
  | succ v ih => rw [bwN, ih, Nat.mod_pow_succ, h, Nat.mul_comm]

theorem and_bits (v a b : Nat) : (a &&& b) / 2 ^ v % 2 = (a / 2 ^ v % 2) &&& (b / 2 ^ v % 2) := by
  rw [Nat.and_div_two_pow]
  exact Nat.and_mod_two_pow (n := 1)
theorem or_bits (v a b : Nat) : (a ||| b) / 2 ^ v % 2 = (a / 2 ^ v % 2) ||| (b / 2 ^ v % 2) := by
  rw [Nat.or_div_two_pow]
  exact Nat.or_mod_two_pow (n := 1)
theorem xor_bits (v a b : Nat) : (a ^^^ b) / 2 ^ v % 2 = (a / 2 ^ v % 2) ^^^ (b / 2 ^ v % 2) := by
  rw [Nat.xor_div_two_pow]
  exact Nat.xor_mod_two_pow (n := 1)

theorem bit_nat (a j : Nat) : (a : Int) / two j % 2 = ((a / 2 ^ j % 2 : Nat) : Int) := by
  rw [two_nat]
  simp

theorem two_cast (j : Nat) : two (j : Int) = ((2 ^ j : Nat) : Int) := by rw [two_nat]; simp

set_option maxRecDepth 100000 in
set_option maxHeartbeats 2000000 in
theorem bitwise_and (v a b : Nat) (A B : Int) (EA : Hid (A = (a : Int))) (EB : Hid (B = (b : Int))) (hv : v ≤ 8) (ha : a < 256) (hb : b < 256) (w : World) :
    Calls Try.prog 64 #[.int .i64 A, .int .i64 B, .int .i64 v, .agg #[.int .i64 0, .int .i64 0, .int .i64 0, .int .i64 1]] w fun e w' => e = .returned (.int .i64 (bwN (fun x y => x &&& y) v a b)) ∧ Below w.heap.size w w' := by
  go_enter Try.func64, Try.ntmps64
  go_wp2
  go_loopw [9, 10] (fun o i wr => ∃ j : Nat, j ≤ v ∧ i = .int .i64 j ∧ o = .int .i64 (bwN (fun x y => x &&& y) j a b) ∧ Below w.heap.size w wr ∧ wr.cell? ⟨w.heap.size, 0, none⟩ = some (.int .i64 0) ∧ wr.cell? ⟨w.heap.size, 1, none⟩ = some (.int .i64 0) ∧ wr.cell? ⟨w.heap.size, 2, none⟩ = some (.int .i64 0) ∧ wr.cell? ⟨w.heap.size, 3, none⟩ = some (.int .i64 1)) (fun _ i _ => v - (intOf i).toNat)
  case atStart => exact ⟨0, Nat.zero_le _, rfl, rfl, bal (Below.refl _ _) _, by simp [go_sem], by simp [go_sem], by simp [go_sem], by simp [go_sem]⟩
  case round =>
    obtain ⟨j, hj, rfl, rfl, hbl, k0, k1, k2, k3⟩ := hrel
    by_cases hlt : j < v
    · have ht := two_bd (v := (j : Int)) (by omega)
      have hxx : a / 2 ^ j % 2 = 0 ∨ a / 2 ^ j % 2 = 1 := by omega
      have hyy : b / 2 ^ j % 2 = 0 ∨ b / 2 ^ j % 2 = 1 := by omega
      rcases hxx with hx | hx <;> rcases hyy with hy | hy
      · have HA : Hid (∀ w, Calls Try.prog 78 #[.int .i64 A, .int .i64 j] w fun e w' => e = .returned (.int .i64 0) ∧ w' = w) := by
          intro w
          have := bit_any a j (by omega) (by omega) (by omega) (by omega) w
          rw [bit_nat, hx] at this
          rw [EA.out]
          exact this
        have HC : Hid (∀ w, Calls Try.prog 78 #[.int .i64 B, .int .i64 j] w fun e w' => e = .returned (.int .i64 0) ∧ w' = w) := by
          intro w
          have := bit_any b j (by omega) (by omega) (by omega) (by omega) w
          rw [bit_nat, hy] at this
          rw [EB.out]
          exact this
        have HS : Hid (bwN (fun x y => x &&& y) (j + 1) a b = bwN (fun x y => x &&& y) j a b + 0 * 2 ^ j) := by
          show bwN (fun x y => x &&& y) j a b + (fun x y => x &&& y) (a / 2 ^ j % 2) (b / 2 ^ j % 2) * 2 ^ j = _
          rw [hx, hy]
          rfl
        clear hx hy
        have hbd : bwN (fun x y => x &&& y) j a b < 2 ^ j := by rw [bw_is (fun x y => x &&& y) and_bits j a b]; exact Nat.mod_lt _ (Nat.two_pow_pos j)
        have HT : Hid (two (j : Int) = ((2 ^ j : Nat) : Int)) := two_cast j
        have htt : ((2 ^ j : Nat) : Int) ≤ 256 := by rw [← HT.out]; omega
        have hb0 : (0 : Int) ≤ (bwN (fun x y => x &&& y) j a b : Int) := by omega
        have hb1 : (bwN (fun x y => x &&& y) j a b : Int) < 256 := by omega
        clear hbd htt
        go_wp2_with fail
        go_quiet (first | (go_at_call_of 78 (Value.int IntKind.i64 A); exact Calls.quiet_of_same (HA.out _)) | (go_at_call_of 78 (Value.int IntKind.i64 B); exact Calls.quiet_of_same (HC.out _)) | (go_at_call 23; exact Calls.quiet_of_same (two_any _ (by omega) (by omega) _)))
        go_wp2
        refine ⟨⟨j + 1, by omega, by go_num, ?_, below_drewN hbl nq, k0, k1, k2, k3⟩, by simp [intOf]; omega⟩
        rw [HS.out]
        first
          | (rw [Nat.zero_mul, Nat.add_zero]; done)
          | (rw [HT.out, Nat.one_mul, Int.natCast_add]; done)
      · have HA : Hid (∀ w, Calls Try.prog 78 #[.int .i64 A, .int .i64 j] w fun e w' => e = .returned (.int .i64 0) ∧ w' = w) := by
          intro w
          have := bit_any a j (by omega) (by omega) (by omega) (by omega) w
          rw [bit_nat, hx] at this
          rw [EA.out]
          exact this
        have HC : Hid (∀ w, Calls Try.prog 78 #[.int .i64 B, .int .i64 j] w fun e w' => e = .returned (.int .i64 1) ∧ w' = w) := by
          intro w
          have := bit_any b j (by omega) (by omega) (by omega) (by omega) w
          rw [bit_nat, hy] at this
          rw [EB.out]
          exact this
        have HS : Hid (bwN (fun x y => x &&& y) (j + 1) a b = bwN (fun x y => x &&& y) j a b + 0 * 2 ^ j) := by
          show bwN (fun x y => x &&& y) j a b + (fun x y => x &&& y) (a / 2 ^ j % 2) (b / 2 ^ j % 2) * 2 ^ j = _
          rw [hx, hy]
          rfl
        clear hx hy
        have hbd : bwN (fun x y => x &&& y) j a b < 2 ^ j := by rw [bw_is (fun x y => x &&& y) and_bits j a b]; exact Nat.mod_lt _ (Nat.two_pow_pos j)
        have HT : Hid (two (j : Int) = ((2 ^ j : Nat) : Int)) := two_cast j
        have htt : ((2 ^ j : Nat) : Int) ≤ 256 := by rw [← HT.out]; omega
        have hb0 : (0 : Int) ≤ (bwN (fun x y => x &&& y) j a b : Int) := by omega
        have hb1 : (bwN (fun x y => x &&& y) j a b : Int) < 256 := by omega
        clear hbd htt
        go_wp2_with fail
        go_quiet (first | (go_at_call_of 78 (Value.int IntKind.i64 A); exact Calls.quiet_of_same (HA.out _)) | (go_at_call_of 78 (Value.int IntKind.i64 B); exact Calls.quiet_of_same (HC.out _)) | (go_at_call 23; exact Calls.quiet_of_same (two_any _ (by omega) (by omega) _)))
        go_wp2
        refine ⟨⟨j + 1, by omega, by go_num, ?_, below_drewN hbl nq, k0, k1, k2, k3⟩, by simp [intOf]; omega⟩
        rw [HS.out]
        first
          | (rw [Nat.zero_mul, Nat.add_zero]; done)
          | (rw [HT.out, Nat.one_mul, Int.natCast_add]; done)
      · have HA : Hid (∀ w, Calls Try.prog 78 #[.int .i64 A, .int .i64 j] w fun e w' => e = .returned (.int .i64 1) ∧ w' = w) := by
          intro w
          have := bit_any a j (by omega) (by omega) (by omega) (by omega) w
          rw [bit_nat, hx] at this
          rw [EA.out]
          exact this
        have HC : Hid (∀ w, Calls Try.prog 78 #[.int .i64 B, .int .i64 j] w fun e w' => e = .returned (.int .i64 0) ∧ w' = w) := by
          intro w
          have := bit_any b j (by omega) (by omega) (by omega) (by omega) w
          rw [bit_nat, hy] at this
          rw [EB.out]
          exact this
        have HS : Hid (bwN (fun x y => x &&& y) (j + 1) a b = bwN (fun x y => x &&& y) j a b + 0 * 2 ^ j) := by
          show bwN (fun x y => x &&& y) j a b + (fun x y => x &&& y) (a / 2 ^ j % 2) (b / 2 ^ j % 2) * 2 ^ j = _
          rw [hx, hy]
          rfl
        clear hx hy
        have hbd : bwN (fun x y => x &&& y) j a b < 2 ^ j := by rw [bw_is (fun x y => x &&& y) and_bits j a b]; exact Nat.mod_lt _ (Nat.two_pow_pos j)
        have HT : Hid (two (j : Int) = ((2 ^ j : Nat) : Int)) := two_cast j
        have htt : ((2 ^ j : Nat) : Int) ≤ 256 := by rw [← HT.out]; omega
        have hb0 : (0 : Int) ≤ (bwN (fun x y => x &&& y) j a b : Int) := by omega
        have hb1 : (bwN (fun x y => x &&& y) j a b : Int) < 256 := by omega
        clear hbd htt
        go_wp2_with fail
        go_quiet (first | (go_at_call_of 78 (Value.int IntKind.i64 A); exact Calls.quiet_of_same (HA.out _)) | (go_at_call_of 78 (Value.int IntKind.i64 B); exact Calls.quiet_of_same (HC.out _)) | (go_at_call 23; exact Calls.quiet_of_same (two_any _ (by omega) (by omega) _)))
        go_wp2
        refine ⟨⟨j + 1, by omega, by go_num, ?_, below_drewN hbl nq, k0, k1, k2, k3⟩, by simp [intOf]; omega⟩
        rw [HS.out]
        first
          | (rw [Nat.zero_mul, Nat.add_zero]; done)
          | (rw [HT.out, Nat.one_mul, Int.natCast_add]; done)
      · have HA : Hid (∀ w, Calls Try.prog 78 #[.int .i64 A, .int .i64 j] w fun e w' => e = .returned (.int .i64 1) ∧ w' = w) := by
          intro w
          have := bit_any a j (by omega) (by omega) (by omega) (by omega) w
          rw [bit_nat, hx] at this
          rw [EA.out]
          exact this
        have HC : Hid (∀ w, Calls Try.prog 78 #[.int .i64 B, .int .i64 j] w fun e w' => e = .returned (.int .i64 1) ∧ w' = w) := by
          intro w
          have := bit_any b j (by omega) (by omega) (by omega) (by omega) w
          rw [bit_nat, hy] at this
          rw [EB.out]
          exact this
        have HS : Hid (bwN (fun x y => x &&& y) (j + 1) a b = bwN (fun x y => x &&& y) j a b + 1 * 2 ^ j) := by
          show bwN (fun x y => x &&& y) j a b + (fun x y => x &&& y) (a / 2 ^ j % 2) (b / 2 ^ j % 2) * 2 ^ j = _
          rw [hx, hy]
          rfl
        clear hx hy
        have hbd : bwN (fun x y => x &&& y) j a b < 2 ^ j := by rw [bw_is (fun x y => x &&& y) and_bits j a b]; exact Nat.mod_lt _ (Nat.two_pow_pos j)
        have HT : Hid (two (j : Int) = ((2 ^ j : Nat) : Int)) := two_cast j
        have htt : ((2 ^ j : Nat) : Int) ≤ 256 := by rw [← HT.out]; omega
        have hb0 : (0 : Int) ≤ (bwN (fun x y => x &&& y) j a b : Int) := by omega
        have hb1 : (bwN (fun x y => x &&& y) j a b : Int) < 256 := by omega
        clear hbd htt
        go_wp2_with fail
        go_quiet (first | (go_at_call_of 78 (Value.int IntKind.i64 A); exact Calls.quiet_of_same (HA.out _)) | (go_at_call_of 78 (Value.int IntKind.i64 B); exact Calls.quiet_of_same (HC.out _)) | (go_at_call 23; exact Calls.quiet_of_same (two_any _ (by omega) (by omega) _)))
        go_wp2
        refine ⟨⟨j + 1, by omega, by go_num, ?_, below_drewN hbl nq, k0, k1, k2, k3⟩, by simp [intOf]; omega⟩
        rw [HS.out]
        first
          | (rw [Nat.zero_mul, Nat.add_zero]; done)
          | (rw [HT.out, Nat.one_mul, Int.natCast_add]; done)

    · obtain rfl : j = v := by omega
      go_wp2
      go_ret
      exact ⟨rfl, hbl⟩

set_option maxRecDepth 100000 in
set_option maxHeartbeats 2000000 in
theorem bitwise_or (v a b : Nat) (A B : Int) (EA : Hid (A = (a : Int))) (EB : Hid (B = (b : Int))) (hv : v ≤ 8) (ha : a < 256) (hb : b < 256) (w : World) :
    Calls Try.prog 64 #[.int .i64 A, .int .i64 B, .int .i64 v, .agg #[.int .i64 0, .int .i64 1, .int .i64 1, .int .i64 1]] w fun e w' => e = .returned (.int .i64 (bwN (fun x y => x ||| y) v a b)) ∧ Below w.heap.size w w' := by
  go_enter Try.func64, Try.ntmps64
  go_wp2
  go_loopw [9, 10] (fun o i wr => ∃ j : Nat, j ≤ v ∧ i = .int .i64 j ∧ o = .int .i64 (bwN (fun x y => x ||| y) j a b) ∧ Below w.heap.size w wr ∧ wr.cell? ⟨w.heap.size, 0, none⟩ = some (.int .i64 0) ∧ wr.cell? ⟨w.heap.size, 1, none⟩ = some (.int .i64 1) ∧ wr.cell? ⟨w.heap.size, 2, none⟩ = some (.int .i64 1) ∧ wr.cell? ⟨w.heap.size, 3, none⟩ = some (.int .i64 1)) (fun _ i _ => v - (intOf i).toNat)
  case atStart => exact ⟨0, Nat.zero_le _, rfl, rfl, bal (Below.refl _ _) _, by simp [go_sem], by simp [go_sem], by simp [go_sem], by simp [go_sem]⟩
  case round =>
    obtain ⟨j, hj, rfl, rfl, hbl, k0, k1, k2, k3⟩ := hrel
    by_cases hlt : j < v
    · have ht := two_bd (v := (j : Int)) (by omega)
      have hxx : a / 2 ^ j % 2 = 0 ∨ a / 2 ^ j % 2 = 1 := by omega
      have hyy : b / 2 ^ j % 2 = 0 ∨ b / 2 ^ j % 2 = 1 := by omega
      rcases hxx with hx | hx <;> rcases hyy with hy | hy
      · have HA : Hid (∀ w, Calls Try.prog 78 #[.int .i64 A, .int .i64 j] w fun e w' => e = .returned (.int .i64 0) ∧ w' = w) := by
          intro w
          have := bit_any a j (by omega) (by omega) (by omega) (by omega) w
          rw [bit_nat, hx] at this
          rw [EA.out]
          exact this
        have HC : Hid (∀ w, Calls Try.prog 78 #[.int .i64 B, .int .i64 j] w fun e w' => e = .returned (.int .i64 0) ∧ w' = w) := by
          intro w
          have := bit_any b j (by omega) (by omega) (by omega) (by omega) w
          rw [bit_nat, hy] at this
          rw [EB.out]
          exact this
        have HS : Hid (bwN (fun x y => x ||| y) (j + 1) a b = bwN (fun x y => x ||| y) j a b + 0 * 2 ^ j) := by
          show bwN (fun x y => x ||| y) j a b + (fun x y => x ||| y) (a / 2 ^ j % 2) (b / 2 ^ j % 2) * 2 ^ j = _
          rw [hx, hy]
          rfl
        clear hx hy
        have hbd : bwN (fun x y => x ||| y) j a b < 2 ^ j := by rw [bw_is (fun x y => x ||| y) or_bits j a b]; exact Nat.mod_lt _ (Nat.two_pow_pos j)
        have HT : Hid (two (j : Int) = ((2 ^ j : Nat) : Int)) := two_cast j
        have htt : ((2 ^ j : Nat) : Int) ≤ 256 := by rw [← HT.out]; omega
        have hb0 : (0 : Int) ≤ (bwN (fun x y => x ||| y) j a b : Int) := by omega
        have hb1 : (bwN (fun x y => x ||| y) j a b : Int) < 256 := by omega
        clear hbd htt
        go_wp2_with fail
        go_quiet (first | (go_at_call_of 78 (Value.int IntKind.i64 A); exact Calls.quiet_of_same (HA.out _)) | (go_at_call_of 78 (Value.int IntKind.i64 B); exact Calls.quiet_of_same (HC.out _)) | (go_at_call 23; exact Calls.quiet_of_same (two_any _ (by omega) (by omega) _)))
        go_wp2
        refine ⟨⟨j + 1, by omega, by go_num, ?_, below_drewN hbl nq, k0, k1, k2, k3⟩, by simp [intOf]; omega⟩
        rw [HS.out]
        first
          | (rw [Nat.zero_mul, Nat.add_zero]; done)
          | (rw [HT.out, Nat.one_mul, Int.natCast_add]; done)
      · have HA : Hid (∀ w, Calls Try.prog 78 #[.int .i64 A, .int .i64 j] w fun e w' => e = .returned (.int .i64 0) ∧ w' = w) := by
          intro w
          have := bit_any a j (by omega) (by omega) (by omega) (by omega) w
          rw [bit_nat, hx] at this
          rw [EA.out]
          exact this
        have HC : Hid (∀ w, Calls Try.prog 78 #[.int .i64 B, .int .i64 j] w fun e w' => e = .returned (.int .i64 1) ∧ w' = w) := by
          intro w
          have := bit_any b j (by omega) (by omega) (by omega) (by omega) w
          rw [bit_nat, hy] at this
          rw [EB.out]
          exact this
        have HS : Hid (bwN (fun x y => x ||| y) (j + 1) a b = bwN (fun x y => x ||| y) j a b + 1 * 2 ^ j) := by
          show bwN (fun x y => x ||| y) j a b + (fun x y => x ||| y) (a / 2 ^ j % 2) (b / 2 ^ j % 2) * 2 ^ j = _
          rw [hx, hy]
          rfl
        clear hx hy
        have hbd : bwN (fun x y => x ||| y) j a b < 2 ^ j := by rw [bw_is (fun x y => x ||| y) or_bits j a b]; exact Nat.mod_lt _ (Nat.two_pow_pos j)
        have HT : Hid (two (j : Int) = ((2 ^ j : Nat) : Int)) := two_cast j
        have htt : ((2 ^ j : Nat) : Int) ≤ 256 := by rw [← HT.out]; omega
        have hb0 : (0 : Int) ≤ (bwN (fun x y => x ||| y) j a b : Int) := by omega
        have hb1 : (bwN (fun x y => x ||| y) j a b : Int) < 256 := by omega
        clear hbd htt
        go_wp2_with fail
        go_quiet (first | (go_at_call_of 78 (Value.int IntKind.i64 A); exact Calls.quiet_of_same (HA.out _)) | (go_at_call_of 78 (Value.int IntKind.i64 B); exact Calls.quiet_of_same (HC.out _)) | (go_at_call 23; exact Calls.quiet_of_same (two_any _ (by omega) (by omega) _)))
        go_wp2
        refine ⟨⟨j + 1, by omega, by go_num, ?_, below_drewN hbl nq, k0, k1, k2, k3⟩, by simp [intOf]; omega⟩
        rw [HS.out]
        first
          | (rw [Nat.zero_mul, Nat.add_zero]; done)
          | (rw [HT.out, Nat.one_mul, Int.natCast_add]; done)
      · have HA : Hid (∀ w, Calls Try.prog 78 #[.int .i64 A, .int .i64 j] w fun e w' => e = .returned (.int .i64 1) ∧ w' = w) := by
          intro w
          have := bit_any a j (by omega) (by omega) (by omega) (by omega) w
          rw [bit_nat, hx] at this
          rw [EA.out]
          exact this
        have HC : Hid (∀ w, Calls Try.prog 78 #[.int .i64 B, .int .i64 j] w fun e w' => e = .returned (.int .i64 0) ∧ w' = w) := by
          intro w
          have := bit_any b j (by omega) (by omega) (by omega) (by omega) w
          rw [bit_nat, hy] at this
          rw [EB.out]
          exact this
        have HS : Hid (bwN (fun x y => x ||| y) (j + 1) a b = bwN (fun x y => x ||| y) j a b + 1 * 2 ^ j) := by
          show bwN (fun x y => x ||| y) j a b + (fun x y => x ||| y) (a / 2 ^ j % 2) (b / 2 ^ j % 2) * 2 ^ j = _
          rw [hx, hy]
          rfl
        clear hx hy
        have hbd : bwN (fun x y => x ||| y) j a b < 2 ^ j := by rw [bw_is (fun x y => x ||| y) or_bits j a b]; exact Nat.mod_lt _ (Nat.two_pow_pos j)
        have HT : Hid (two (j : Int) = ((2 ^ j : Nat) : Int)) := two_cast j
        have htt : ((2 ^ j : Nat) : Int) ≤ 256 := by rw [← HT.out]; omega
        have hb0 : (0 : Int) ≤ (bwN (fun x y => x ||| y) j a b : Int) := by omega
        have hb1 : (bwN (fun x y => x ||| y) j a b : Int) < 256 := by omega
        clear hbd htt
        go_wp2_with fail
        go_quiet (first | (go_at_call_of 78 (Value.int IntKind.i64 A); exact Calls.quiet_of_same (HA.out _)) | (go_at_call_of 78 (Value.int IntKind.i64 B); exact Calls.quiet_of_same (HC.out _)) | (go_at_call 23; exact Calls.quiet_of_same (two_any _ (by omega) (by omega) _)))
        go_wp2
        refine ⟨⟨j + 1, by omega, by go_num, ?_, below_drewN hbl nq, k0, k1, k2, k3⟩, by simp [intOf]; omega⟩
        rw [HS.out]
        first
          | (rw [Nat.zero_mul, Nat.add_zero]; done)
          | (rw [HT.out, Nat.one_mul, Int.natCast_add]; done)
      · have HA : Hid (∀ w, Calls Try.prog 78 #[.int .i64 A, .int .i64 j] w fun e w' => e = .returned (.int .i64 1) ∧ w' = w) := by
          intro w
          have := bit_any a j (by omega) (by omega) (by omega) (by omega) w
          rw [bit_nat, hx] at this
          rw [EA.out]
          exact this
        have HC : Hid (∀ w, Calls Try.prog 78 #[.int .i64 B, .int .i64 j] w fun e w' => e = .returned (.int .i64 1) ∧ w' = w) := by
          intro w
          have := bit_any b j (by omega) (by omega) (by omega) (by omega) w
          rw [bit_nat, hy] at this
          rw [EB.out]
          exact this
        have HS : Hid (bwN (fun x y => x ||| y) (j + 1) a b = bwN (fun x y => x ||| y) j a b + 1 * 2 ^ j) := by
          show bwN (fun x y => x ||| y) j a b + (fun x y => x ||| y) (a / 2 ^ j % 2) (b / 2 ^ j % 2) * 2 ^ j = _
          rw [hx, hy]
          rfl
        clear hx hy
        have hbd : bwN (fun x y => x ||| y) j a b < 2 ^ j := by rw [bw_is (fun x y => x ||| y) or_bits j a b]; exact Nat.mod_lt _ (Nat.two_pow_pos j)
        have HT : Hid (two (j : Int) = ((2 ^ j : Nat) : Int)) := two_cast j
        have htt : ((2 ^ j : Nat) : Int) ≤ 256 := by rw [← HT.out]; omega
        have hb0 : (0 : Int) ≤ (bwN (fun x y => x ||| y) j a b : Int) := by omega
        have hb1 : (bwN (fun x y => x ||| y) j a b : Int) < 256 := by omega
        clear hbd htt
        go_wp2_with fail
        go_quiet (first | (go_at_call_of 78 (Value.int IntKind.i64 A); exact Calls.quiet_of_same (HA.out _)) | (go_at_call_of 78 (Value.int IntKind.i64 B); exact Calls.quiet_of_same (HC.out _)) | (go_at_call 23; exact Calls.quiet_of_same (two_any _ (by omega) (by omega) _)))
        go_wp2
        refine ⟨⟨j + 1, by omega, by go_num, ?_, below_drewN hbl nq, k0, k1, k2, k3⟩, by simp [intOf]; omega⟩
        rw [HS.out]
        first
          | (rw [Nat.zero_mul, Nat.add_zero]; done)
          | (rw [HT.out, Nat.one_mul, Int.natCast_add]; done)

    · obtain rfl : j = v := by omega
      go_wp2
      go_ret
      exact ⟨rfl, hbl⟩

set_option maxRecDepth 100000 in
set_option maxHeartbeats 2000000 in
theorem bitwise_xor (v a b : Nat) (A B : Int) (EA : Hid (A = (a : Int))) (EB : Hid (B = (b : Int))) (hv : v ≤ 8) (ha : a < 256) (hb : b < 256) (w : World) :
    Calls Try.prog 64 #[.int .i64 A, .int .i64 B, .int .i64 v, .agg #[.int .i64 0, .int .i64 1, .int .i64 1, .int .i64 0]] w fun e w' => e = .returned (.int .i64 (bwN (fun x y => x ^^^ y) v a b)) ∧ Below w.heap.size w w' := by
  go_enter Try.func64, Try.ntmps64
  go_wp2
  go_loopw [9, 10] (fun o i wr => ∃ j : Nat, j ≤ v ∧ i = .int .i64 j ∧ o = .int .i64 (bwN (fun x y => x ^^^ y) j a b) ∧ Below w.heap.size w wr ∧ wr.cell? ⟨w.heap.size, 0, none⟩ = some (.int .i64 0) ∧ wr.cell? ⟨w.heap.size, 1, none⟩ = some (.int .i64 1) ∧ wr.cell? ⟨w.heap.size, 2, none⟩ = some (.int .i64 1) ∧ wr.cell? ⟨w.heap.size, 3, none⟩ = some (.int .i64 0)) (fun _ i _ => v - (intOf i).toNat)
  case atStart => exact ⟨0, Nat.zero_le _, rfl, rfl, bal (Below.refl _ _) _, by simp [go_sem], by simp [go_sem], by simp [go_sem], by simp [go_sem]⟩
  case round =>
    obtain ⟨j, hj, rfl, rfl, hbl, k0, k1, k2, k3⟩ := hrel
    by_cases hlt : j < v
    · have ht := two_bd (v := (j : Int)) (by omega)
      have hxx : a / 2 ^ j % 2 = 0 ∨ a / 2 ^ j % 2 = 1 := by omega
      have hyy : b / 2 ^ j % 2 = 0 ∨ b / 2 ^ j % 2 = 1 := by omega
      rcases hxx with hx | hx <;> rcases hyy with hy | hy
      · have HA : Hid (∀ w, Calls Try.prog 78 #[.int .i64 A, .int .i64 j] w fun e w' => e = .returned (.int .i64 0) ∧ w' = w) := by
          intro w
          have := bit_any a j (by omega) (by omega) (by omega) (by omega) w
          rw [bit_nat, hx] at this
          rw [EA.out]
          exact this
        have HC : Hid (∀ w, Calls Try.prog 78 #[.int .i64 B, .int .i64 j] w fun e w' => e = .returned (.int .i64 0) ∧ w' = w) := by
          intro w
          have := bit_any b j (by omega) (by omega) (by omega) (by omega) w
          rw [bit_nat, hy] at this
          rw [EB.out]
          exact this
        have HS : Hid (bwN (fun x y => x ^^^ y) (j + 1) a b = bwN (fun x y => x ^^^ y) j a b + 0 * 2 ^ j) := by
          show bwN (fun x y => x ^^^ y) j a b + (fun x y => x ^^^ y) (a / 2 ^ j % 2) (b / 2 ^ j % 2) * 2 ^ j = _
          rw [hx, hy]
          rfl
        clear hx hy
        have hbd : bwN (fun x y => x ^^^ y) j a b < 2 ^ j := by rw [bw_is (fun x y => x ^^^ y) xor_bits j a b]; exact Nat.mod_lt _ (Nat.two_pow_pos j)
        have HT : Hid (two (j : Int) = ((2 ^ j : Nat) : Int)) := two_cast j
        have htt : ((2 ^ j : Nat) : Int) ≤ 256 := by rw [← HT.out]; omega
        have hb0 : (0 : Int) ≤ (bwN (fun x y => x ^^^ y) j a b : Int) := by omega
        have hb1 : (bwN (fun x y => x ^^^ y) j a b : Int) < 256 := by omega
        clear hbd htt
        go_wp2_with fail
        go_quiet (first | (go_at_call_of 78 (Value.int IntKind.i64 A); exact Calls.quiet_of_same (HA.out _)) | (go_at_call_of 78 (Value.int IntKind.i64 B); exact Calls.quiet_of_same (HC.out _)) | (go_at_call 23; exact Calls.quiet_of_same (two_any _ (by omega) (by omega) _)))
        go_wp2
        refine ⟨⟨j + 1, by omega, by go_num, ?_, below_drewN hbl nq, k0, k1, k2, k3⟩, by simp [intOf]; omega⟩
        rw [HS.out]
        first
          | (rw [Nat.zero_mul, Nat.add_zero]; done)
          | (rw [HT.out, Nat.one_mul, Int.natCast_add]; done)
      · have HA : Hid (∀ w, Calls Try.prog 78 #[.int .i64 A, .int .i64 j] w fun e w' => e = .returned (.int .i64 0) ∧ w' = w) := by
          intro w
          have := bit_any a j (by omega) (by omega) (by omega) (by omega) w
          rw [bit_nat, hx] at this
          rw [EA.out]
          exact this
        have HC : Hid (∀ w, Calls Try.prog 78 #[.int .i64 B, .int .i64 j] w fun e w' => e = .returned (.int .i64 1) ∧ w' = w) := by
          intro w
          have := bit_any b j (by omega) (by omega) (by omega) (by omega) w
          rw [bit_nat, hy] at this
          rw [EB.out]
          exact this
        have HS : Hid (bwN (fun x y => x ^^^ y) (j + 1) a b = bwN (fun x y => x ^^^ y) j a b + 1 * 2 ^ j) := by
          show bwN (fun x y => x ^^^ y) j a b + (fun x y => x ^^^ y) (a / 2 ^ j % 2) (b / 2 ^ j % 2) * 2 ^ j = _
          rw [hx, hy]
          rfl
        clear hx hy
        have hbd : bwN (fun x y => x ^^^ y) j a b < 2 ^ j := by rw [bw_is (fun x y => x ^^^ y) xor_bits j a b]; exact Nat.mod_lt _ (Nat.two_pow_pos j)
        have HT : Hid (two (j : Int) = ((2 ^ j : Nat) : Int)) := two_cast j
        have htt : ((2 ^ j : Nat) : Int) ≤ 256 := by rw [← HT.out]; omega
        have hb0 : (0 : Int) ≤ (bwN (fun x y => x ^^^ y) j a b : Int) := by omega
        have hb1 : (bwN (fun x y => x ^^^ y) j a b : Int) < 256 := by omega
        clear hbd htt
        go_wp2_with fail
        go_quiet (first | (go_at_call_of 78 (Value.int IntKind.i64 A); exact Calls.quiet_of_same (HA.out _)) | (go_at_call_of 78 (Value.int IntKind.i64 B); exact Calls.quiet_of_same (HC.out _)) | (go_at_call 23; exact Calls.quiet_of_same (two_any _ (by omega) (by omega) _)))
        go_wp2
        refine ⟨⟨j + 1, by omega, by go_num, ?_, below_drewN hbl nq, k0, k1, k2, k3⟩, by simp [intOf]; omega⟩
        rw [HS.out]
        first
          | (rw [Nat.zero_mul, Nat.add_zero]; done)
          | (rw [HT.out, Nat.one_mul, Int.natCast_add]; done)
      · have HA : Hid (∀ w, Calls Try.prog 78 #[.int .i64 A, .int .i64 j] w fun e w' => e = .returned (.int .i64 1) ∧ w' = w) := by
          intro w
          have := bit_any a j (by omega) (by omega) (by omega) (by omega) w
          rw [bit_nat, hx] at this
          rw [EA.out]
          exact this
        have HC : Hid (∀ w, Calls Try.prog 78 #[.int .i64 B, .int .i64 j] w fun e w' => e = .returned (.int .i64 0) ∧ w' = w) := by
          intro w
          have := bit_any b j (by omega) (by omega) (by omega) (by omega) w
          rw [bit_nat, hy] at this
          rw [EB.out]
          exact this
        have HS : Hid (bwN (fun x y => x ^^^ y) (j + 1) a b = bwN (fun x y => x ^^^ y) j a b + 1 * 2 ^ j) := by
          show bwN (fun x y => x ^^^ y) j a b + (fun x y => x ^^^ y) (a / 2 ^ j % 2) (b / 2 ^ j % 2) * 2 ^ j = _
          rw [hx, hy]
          rfl
        clear hx hy
        have hbd : bwN (fun x y => x ^^^ y) j a b < 2 ^ j := by rw [bw_is (fun x y => x ^^^ y) xor_bits j a b]; exact Nat.mod_lt _ (Nat.two_pow_pos j)
        have HT : Hid (two (j : Int) = ((2 ^ j : Nat) : Int)) := two_cast j
        have htt : ((2 ^ j : Nat) : Int) ≤ 256 := by rw [← HT.out]; omega
        have hb0 : (0 : Int) ≤ (bwN (fun x y => x ^^^ y) j a b : Int) := by omega
        have hb1 : (bwN (fun x y => x ^^^ y) j a b : Int) < 256 := by omega
        clear hbd htt
        go_wp2_with fail
        go_quiet (first | (go_at_call_of 78 (Value.int IntKind.i64 A); exact Calls.quiet_of_same (HA.out _)) | (go_at_call_of 78 (Value.int IntKind.i64 B); exact Calls.quiet_of_same (HC.out _)) | (go_at_call 23; exact Calls.quiet_of_same (two_any _ (by omega) (by omega) _)))
        go_wp2
        refine ⟨⟨j + 1, by omega, by go_num, ?_, below_drewN hbl nq, k0, k1, k2, k3⟩, by simp [intOf]; omega⟩
        rw [HS.out]
        first
          | (rw [Nat.zero_mul, Nat.add_zero]; done)
          | (rw [HT.out, Nat.one_mul, Int.natCast_add]; done)
      · have HA : Hid (∀ w, Calls Try.prog 78 #[.int .i64 A, .int .i64 j] w fun e w' => e = .returned (.int .i64 1) ∧ w' = w) := by
          intro w
          have := bit_any a j (by omega) (by omega) (by omega) (by omega) w
          rw [bit_nat, hx] at this
          rw [EA.out]
          exact this
        have HC : Hid (∀ w, Calls Try.prog 78 #[.int .i64 B, .int .i64 j] w fun e w' => e = .returned (.int .i64 1) ∧ w' = w) := by
          intro w
          have := bit_any b j (by omega) (by omega) (by omega) (by omega) w
          rw [bit_nat, hy] at this
          rw [EB.out]
          exact this
        have HS : Hid (bwN (fun x y => x ^^^ y) (j + 1) a b = bwN (fun x y => x ^^^ y) j a b + 0 * 2 ^ j) := by
          show bwN (fun x y => x ^^^ y) j a b + (fun x y => x ^^^ y) (a / 2 ^ j % 2) (b / 2 ^ j % 2) * 2 ^ j = _
          rw [hx, hy]
          rfl
        clear hx hy
        have hbd : bwN (fun x y => x ^^^ y) j a b < 2 ^ j := by rw [bw_is (fun x y => x ^^^ y) xor_bits j a b]; exact Nat.mod_lt _ (Nat.two_pow_pos j)
        have HT : Hid (two (j : Int) = ((2 ^ j : Nat) : Int)) := two_cast j
        have htt : ((2 ^ j : Nat) : Int) ≤ 256 := by rw [← HT.out]; omega
        have hb0 : (0 : Int) ≤ (bwN (fun x y => x ^^^ y) j a b : Int) := by omega
        have hb1 : (bwN (fun x y => x ^^^ y) j a b : Int) < 256 := by omega
        clear hbd htt
        go_wp2_with fail
        go_quiet (first | (go_at_call_of 78 (Value.int IntKind.i64 A); exact Calls.quiet_of_same (HA.out _)) | (go_at_call_of 78 (Value.int IntKind.i64 B); exact Calls.quiet_of_same (HC.out _)) | (go_at_call 23; exact Calls.quiet_of_same (two_any _ (by omega) (by omega) _)))
        go_wp2
        refine ⟨⟨j + 1, by omega, by go_num, ?_, below_drewN hbl nq, k0, k1, k2, k3⟩, by simp [intOf]; omega⟩
        rw [HS.out]
        first
          | (rw [Nat.zero_mul, Nat.add_zero]; done)
          | (rw [HT.out, Nat.one_mul, Int.natCast_add]; done)

    · obtain rfl : j = v := by omega
      go_wp2
      go_ret
      exact ⟨rfl, hbl⟩

end Go.Proofs.Ytfobcnhibhbbaaa
