/- Apply, whatever it is handed. -/
import Derived.Test.YtfobcnhibhbbaaaGreatDoorVe
import Derived.Deep.QuietTactic
import Derived.BigQuiet
import Derived.Deep.RegionWith
namespace Go.Proofs.YtfobcnhibhbbaaaGreatDoor.Ev
open Go.RowKit
set_option maxRecDepth 100000

/-- Are all three words of their widths? -/
def allW (a b c wa wb wc : Int) : Bool := isW a wa && isW b wb && isW c wc

/-- Apply's error. -/
def apE (k v a b c n wa wb wc : Int) : Int :=
  if fitE k v n wa wb wc = 0 then (if allW a b c wa wb wc then 0 else 3) else fitE k v n wa wb wc
/-- Apply's word. -/
def apV (k v a b c n wa wb wc : Int) : Int :=
  if apE k v a b c n wa wb wc = 0 then madeE k v a b c n wa wb else 0

theorem ret2' {a b d f : Int} (h : a = b) (h' : d = f) : Ending.returned (.tuple #[.int .i64 a, .int .i64 d]) = .returned (.tuple #[.int .i64 b, .int .i64 f]) := by rw [h, h']

set_option maxRecDepth 100000 in
set_option maxHeartbeats 1000000 in
theorem apply_unfit (k v a b c n wa wb wc : Int) (hfit : fitE k v n wa wb wc ≠ 0) (w : World) :
    Calls Tryz.prog 91 #[.int .i64 k, .int .i64 v, .int .i64 a, .int .i64 b, .int .i64 c, .int .i64 n, arr3 wa wb wc] w fun e w' => e = .returned (.tuple #[.int .i64 0, .int .i64 (fitE k v n wa wb wc)]) ∧ Below w.heap.size w w' := by
  have hne : (fitE k v n wa wb wc != 0) = true := by simp [hfit]
  clear hfit
  go_enter Tryz.func91, Tryz.ntmps91
  go_wp2_with fail
  refine (fit_any _ _ _ _ _ _ _).mono ?_
  rintro e w1 ⟨rfl, hb1⟩
  obtain ⟨c0, c1, c2, hbw⟩ := box3 hb1
  clear hb1
  go_wp2
  go_ret2
  exact ⟨rfl, hbw⟩

set_option maxRecDepth 100000 in
set_option maxHeartbeats 1000000 in
theorem apply_unword (k v a b c n wa wb wc : Int) (hfit : fitE k v n wa wb wc = 0) (hw : allW a b c wa wb wc = false) (w : World) :
    Calls Tryz.prog 91 #[.int .i64 k, .int .i64 v, .int .i64 a, .int .i64 b, .int .i64 c, .int .i64 n, arr3 wa wb wc] w fun e w' => e = .returned (.tuple #[.int .i64 0, .int .i64 3]) ∧ Below w.heap.size w w' := by
  obtain ⟨hv, hr, hok, hn, _⟩ := fit_zero hfit
  obtain ⟨ba, bb, bc⟩ := rng_bd hr
  have Hfit : Hid _ := hfit
  clear hfit hok hn hr
  have i0 : ∀ w : World, (Instr.index 128 (arr3 a b c) (.int .i64 0)).run Tryz.prog w = .ok (.int .i64 a) w := fun _ => by kernel_rfl
  have i1 : ∀ w : World, (Instr.index 128 (arr3 a b c) (.int .i64 1)).run Tryz.prog w = .ok (.int .i64 b) w := fun _ => by kernel_rfl
  have i2 : ∀ w : World, (Instr.index 128 (arr3 a b c) (.int .i64 2)).run Tryz.prog w = .ok (.int .i64 c) w := fun _ => by kernel_rfl
  have Hw : Hid _ := hw
  clear hw
  cases ha : isW a wa
  · go_enter Tryz.func91, Tryz.ntmps91
    go_wp2_with fail
    refine (fit_any _ _ _ _ _ _ _).mono ?_
    rintro e w1 ⟨rfl, hb1⟩
    rw [Hfit.out]
    obtain ⟨c0, c1, c2, hbw⟩ := box3 hb1
    clear hb1
    go_wp2
    refine wp_loop_rounds 4 ?_
    rw [rounds_succ]
    go_wp2_with (go_at_call 75; refine (isWord_any _ _ (by omega) _).mono ?_; rintro e w' ⟨rfl, rfl⟩)
    go_ret2
    exact ⟨rfl, hbw⟩
  cases hb : isW b wb
  · go_enter Tryz.func91, Tryz.ntmps91
    go_wp2_with fail
    refine (fit_any _ _ _ _ _ _ _).mono ?_
    rintro e w1 ⟨rfl, hb1⟩
    rw [Hfit.out]
    obtain ⟨c0, c1, c2, hbw⟩ := box3 hb1
    clear hb1
    go_wp2
    refine wp_loop_rounds 4 ?_
    rw [rounds_succ]
    go_wp2_with (go_at_call 75; refine (isWord_any _ _ (by omega) _).mono ?_; rintro e w' ⟨rfl, rfl⟩)
    rw [rounds_succ]
    go_wp2_with (go_at_call 75; refine (isWord_any _ _ (by omega) _).mono ?_; rintro e w' ⟨rfl, rfl⟩)
    go_ret2
    exact ⟨rfl, hbw⟩
  have hc : isW c wc = false := by
    have := Hw.out
    simpa [allW, ha, hb] using this
  go_enter Tryz.func91, Tryz.ntmps91
  go_wp2_with fail
  refine (fit_any _ _ _ _ _ _ _).mono ?_
  rintro e w1 ⟨rfl, hb1⟩
  rw [Hfit.out]
  obtain ⟨c0, c1, c2, hbw⟩ := box3 hb1
  clear hb1
  go_wp2
  refine wp_loop_rounds 4 ?_
  rw [rounds_succ]
  go_wp2_with (go_at_call 75; refine (isWord_any _ _ (by omega) _).mono ?_; rintro e w' ⟨rfl, rfl⟩)
  rw [rounds_succ]
  go_wp2_with (go_at_call 75; refine (isWord_any _ _ (by omega) _).mono ?_; rintro e w' ⟨rfl, rfl⟩)
  rw [rounds_succ]
  go_wp2_with (go_at_call 75; refine (isWord_any _ _ (by omega) _).mono ?_; rintro e w' ⟨rfl, rfl⟩)
  go_ret2
  exact ⟨rfl, hbw⟩

theorem kinds20 {k : Int} (h : 4 ≤ k ∧ k ≤ 23) : k = 4 ∨ k = 5 ∨ k = 6 ∨ k = 7 ∨ k = 8 ∨ k = 9 ∨ k = 10 ∨ k = 11 ∨ k = 12 ∨ k = 13 ∨ k = 14 ∨ k = 15 ∨ k = 16 ∨ k = 17 ∨ k = 18 ∨ k = 19 ∨ k = 20 ∨ k = 21 ∨ k = 22 ∨ k = 23 := by omega

theorem apply_right (k v a b c n wa wb wc : Int) (hfit : fitE k v n wa wb wc = 0) (ha : isW a wa = true) (hb : isW b wb = true) (hc : isW c wc = true) (w : World) :
    Calls Tryz.prog 91 #[.int .i64 k, .int .i64 v, .int .i64 a, .int .i64 b, .int .i64 c, .int .i64 n, arr3 wa wb wc] w fun e w' => e = .returned (.tuple #[.int .i64 (madeE k v a b c n wa wb), .int .i64 0]) ∧ Below w.heap.size w w' := by
  rcases kinds20 (fit_zero hfit).2.2.2.2 with rfl | rfl | rfl | rfl | rfl | rfl | rfl | rfl | rfl | rfl | rfl | rfl | rfl | rfl | rfl | rfl | rfl | rfl | rfl | rfl
  · exact apply_4 v a b c n wa wb wc hfit ha hb hc w
  · exact apply_5 v a b c n wa wb wc hfit ha hb hc w
  · exact apply_6 v a b c n wa wb wc hfit ha hb hc w
  · exact apply_7 v a b c n wa wb wc hfit ha hb hc w
  · exact apply_8 v a b c n wa wb wc hfit ha hb hc w
  · exact apply_9 v a b c n wa wb wc hfit ha hb hc w
  · exact apply_10 v a b c n wa wb wc hfit ha hb hc w
  · exact apply_11 v a b c n wa wb wc hfit ha hb hc w
  · exact apply_12 v a b c n wa wb wc hfit ha hb hc w
  · exact apply_13 v a b c n wa wb wc hfit ha hb hc w
  · exact apply_14 v a b c n wa wb wc hfit ha hb hc w
  · exact apply_15 v a b c n wa wb wc hfit ha hb hc w
  · exact apply_16 v a b c n wa wb wc hfit ha hb hc w
  · exact apply_17 v a b c n wa wb wc hfit ha hb hc w
  · exact apply_18 v a b c n wa wb wc hfit ha hb hc w
  · exact apply_19 v a b c n wa wb wc hfit ha hb hc w
  · exact apply_20 v a b c n wa wb wc hfit ha hb hc w
  · exact apply_21 v a b c n wa wb wc hfit ha hb hc w
  · exact apply_22 v a b c n wa wb wc hfit ha hb hc w
  · exact apply_23 v a b c n wa wb wc hfit ha hb hc w

/-- Apply, whatever it is handed. -/
theorem apply_any (k v a b c n wa wb wc : Int) (w : World) :
    Calls Tryz.prog 91 #[.int .i64 k, .int .i64 v, .int .i64 a, .int .i64 b, .int .i64 c, .int .i64 n, arr3 wa wb wc] w fun e w' => e = .returned (.tuple #[.int .i64 (apV k v a b c n wa wb wc), .int .i64 (apE k v a b c n wa wb wc)]) ∧ Below w.heap.size w w' := by
  by_cases hf : fitE k v n wa wb wc = 0
  · cases hw : allW a b c wa wb wc
    · have e1 : apE k v a b c n wa wb wc = 3 := by simp [apE, hf, hw]
      have e2 : apV k v a b c n wa wb wc = 0 := by simp [apV, e1]
      rw [e1, e2]
      exact apply_unword k v a b c n wa wb wc hf hw w
    · have e1 : apE k v a b c n wa wb wc = 0 := by simp [apE, hf, hw]
      have e2 : apV k v a b c n wa wb wc = madeE k v a b c n wa wb := by simp [apV, e1]
      rw [e1, e2]
      simp only [allW, Bool.and_eq_true] at hw
      exact apply_right k v a b c n wa wb wc hf hw.1.1 hw.1.2 hw.2 w
  · have e1 : apE k v a b c n wa wb wc = fitE k v n wa wb wc := by simp [apE, hf]
    have e2 : apV k v a b c n wa wb wc = 0 := by simp [apV, e1, hf]
    rw [e1, e2]
    exact apply_unfit k v a b c n wa wb wc hf w

end Go.Proofs.YtfobcnhibhbbaaaGreatDoor.Ev

namespace Go.Proofs.YtfobcnhibhbbaaaGreatDoor.Ev
open Go.RowKit
set_option maxRecDepth 100000

theorem two_succ (j : Nat) : two ((j : Int) + 1) = 2 * two j := by
  unfold two
  rw [show ((j : Int) + 1).toNat = j + 1 from by omega, show ((j : Int)).toNat = j from by omega, Int.pow_succ]
  omega

theorem two_le (i j : Nat) (h : i ≤ j) : two i ≤ two j := by
  rw [two_nat, two_nat]
  have := Nat.pow_le_pow_right (n := 2) (by omega) h
  simp only [Int.toNat_natCast]
  omega

theorem two_60 : two ((60 : Nat) : Int) = 1152921504606846976 := by rfl

/-- Which of n things a raw number speaks of. -/
def pick (c n : Int) : Int := if c < 0 then (- (c + 1)) % n else c % n
theorem pick_bd (c n : Int) (hn : 0 < n) : 0 ≤ pick c n ∧ pick c n < n := by
  unfold pick
  split
  · exact ⟨Int.emod_nonneg _ (by omega), Int.emod_lt_of_pos _ hn⟩
  · exact ⟨Int.emod_nonneg _ (by omega), Int.emod_lt_of_pos _ hn⟩

end Go.Proofs.YtfobcnhibhbbaaaGreatDoor.Ev

namespace Go.Proofs.YtfobcnhibhbbaaaGreatDoor.Ev
open Go.RowKit
set_option maxRecDepth 100000

/-- The upmost bit, and being less than it. -/
theorem top_bit (a v : Int) (hv : 1 ≤ v ∧ v ≤ 8) (ha : 0 ≤ a) (ha2 : a < two v) : (a / two (v - 1) % 2 = 0 ∧ sgn a v = a) ∨ (a / two (v - 1) % 2 = 1 ∧ sgn a v = a - two v) := by
  have : v = 1 ∨ v = 2 ∨ v = 3 ∨ v = 4 ∨ v = 5 ∨ v = 6 ∨ v = 7 ∨ v = 8 := by omega
  by_cases hc : a < two (v - 1)
  · left
    refine ⟨?_, by unfold sgn; rw [if_pos hc]⟩
    rw [Int.ediv_eq_zero_of_lt ha hc]
    rfl
  · right
    refine ⟨?_, by unfold sgn; rw [if_neg hc]⟩
    rcases this with rfl | rfl | rfl | rfl | rfl | rfl | rfl | rfl <;> simp [two] at hc ha2 ⊢ <;> omega

/-- Each bit by a function of two bits. -/
def bwN (f : Nat → Nat → Nat) : Nat → Nat → Nat → Nat
  | 0, _, _ => 0
  | v + 1, a, b => bwN f v a b + f (a / 2 ^ v % 2) (b / 2 ^ v % 2) * 2 ^ v

theorem bw_is (f : Nat → Nat → Nat) (h : ∀ v a b, f a b / 2 ^ v % 2 = f (a / 2 ^ v % 2) (b / 2 ^ v % 2)) (v a b : Nat) : bwN f v a b = f a b % 2 ^ v := by
  induction v with
  | zero => simp [bwN, Nat.mod_one]
  | succ v ih => rw [bwN, ih, Nat.mod_pow_succ, h, Nat.mul_comm]

theorem and_bits (v a b : Nat) : (a &&& b) / 2 ^ v % 2 = (a / 2 ^ v % 2) &&& (b / 2 ^ v % 2) := by
  rw [Nat.and_div_two_pow]
  exact Nat.and_mod_two_pow (n := 1)
theorem or_bits (v a b : Nat) : (a ||| b) / 2 ^ v % 2 = (a / 2 ^ v % 2) ||| (b / 2 ^ v % 2) := by
  rw [Nat.or_div_two_pow]
  exact Nat.or_mod_two_pow (n := 1)
theorem xor_bits (v a b : Nat) : (a ^^^ b) / 2 ^ v % 2 = (a / 2 ^ v % 2) ^^^ (b / 2 ^ v % 2) := by
  rw [Nat.xor_div_two_pow]
  exact Nat.xor_mod_two_pow (n := 1)

theorem bit_nat (a j : Nat) : (a : Int) / two j % 2 = ((a / 2 ^ j % 2 : Nat) : Int) := by
  rw [two_nat]
  simp

theorem two_cast (j : Nat) : two (j : Int) = ((2 ^ j : Nat) : Int) := by rw [two_nat]; simp

end Go.Proofs.YtfobcnhibhbbaaaGreatDoor.Ev

namespace Go.Proofs.YtfobcnhibhbbaaaGreatDoor.Ev
open Go.RowKit
set_option maxRecDepth 100000

theorem fitE_begun : fitE 9 4 0 4 4 0 = 0 := by decide
theorem apE_begun : apE 9 4 9 9 0 0 4 4 0 = 0 := by decide
theorem apV_begun : apV 9 4 9 9 0 0 4 4 0 = 2 := by decide

/-- From one world to the next, below what was there first. -/
theorem bthen {w w1 w2 : World} (h : Below w.heap.size w w1) (k : Below w1.heap.size w1 w2) : Below w.heap.size w w2 := h.trans (k.mono h.size)

end Go.Proofs.YtfobcnhibhbbaaaGreatDoor.Ev

namespace Go.Proofs.YtfobcnhibhbbaaaGreatDoor.Ev
open Go.RowKit
set_option maxRecDepth 100000

theorem two_mono (i j : Int) (h0 : 0 ≤ i) (h : i ≤ j) : two i ≤ two j := by
  obtain ⟨x, rfl⟩ := Int.eq_ofNat_of_zero_le h0
  obtain ⟨y, rfl⟩ := Int.eq_ofNat_of_zero_le (show 0 ≤ j from by omega)
  exact two_le x y (by omega)

theorem sgn_bd (a v : Int) (ha : 0 ≤ a) (ha2 : a < two v) : - two v ≤ sgn a v ∧ sgn a v < two v := by
  unfold sgn
  split <;> omega

theorem bw_val (f : Nat → Nat → Nat) (h : ∀ v a b, f a b / 2 ^ v % 2 = f (a / 2 ^ v % 2) (b / 2 ^ v % 2)) (v a b : Nat) (hl : f a b < 2 ^ v) : bwN f v a b = f a b := by
  rw [bw_is f h, Nat.mod_eq_of_lt hl]

end Go.Proofs.YtfobcnhibhbbaaaGreatDoor.Ev

namespace Go.Proofs.YtfobcnhibhbbaaaGreatDoor.Ev
open Go.RowKit
set_option maxRecDepth 100000


end Go.Proofs.YtfobcnhibhbbaaaGreatDoor.Ev

namespace Go.Proofs.YtfobcnhibhbbaaaGreatDoor.Ev
open Go.RowKit
set_option maxRecDepth 100000

abbrev ap (w : World) (b o : Nat) (x : Int) : Prop := w.cell? ⟨b, o, none⟩ = some (.int .i64 x)
/-- What lies in memory while the law goes on: the words, their widths, and the list of words. -/
def AppF (w wr : World) (S : Nat) (a b c wa wb wc : Int) : Prop :=
  Below w.heap.size w wr ∧ (ap wr w.heap.size 0 a ∧ ap wr w.heap.size 1 b ∧ ap wr w.heap.size 2 c) ∧ (ap wr (w.heap.size + 1) 0 wa ∧ ap wr (w.heap.size + 1) 1 wb ∧ ap wr (w.heap.size + 1) 2 wc) ∧ (ap wr S 0 a ∧ ap wr S 1 b ∧ ap wr S 2 c)

theorem AppF.drew {w wr : World} {S : Nat} {a b c wa wb wc : Int} (h : AppF w wr S a b c wa wb wc) (n : Nat) : AppF w (wr.drewN n) S a b c wa wb wc :=
  ⟨below_drewN h.1 n, h.2⟩

/-- Is the word at a place one of its width? -/
def goodAt (a b c wa wb wc : Int) (i : Nat) : Prop := (if i = 0 then isW a wa else if i = 1 then isW b wb else isW c wc) = true
theorem good_step {a b c wa wb wc : Int} {j : Nat} (h : ∀ i : Nat, i < j → goodAt a b c wa wb wc i) (hj : goodAt a b c wa wb wc j) : ∀ i : Nat, i < j + 1 → goodAt a b c wa wb wc i := by
  intro i hi
  rcases Nat.lt_succ_iff_lt_or_eq.1 hi with h1 | rfl
  · exact h i h1
  · exact hj
theorem good_all {a b c wa wb wc : Int} (h : ∀ i : Nat, i < 3 → goodAt a b c wa wb wc i) : isW a wa = true ∧ isW b wb = true ∧ isW c wc = true :=
  ⟨h 0 (by omega), h 1 (by omega), h 2 (by omega)⟩
theorem rng_one {a b c : Int} (h : rngOk 1 a b c = true) : (1 ≤ a ∧ a ≤ 8) ∧ b = 0 ∧ c = 0 := by
  simp [rngOk, btw] at h
  omega
theorem rng_two {a b c : Int} (h : rngOk 2 a b c = true) : (1 ≤ a ∧ a ≤ 8) ∧ (1 ≤ b ∧ b ≤ 8) ∧ c = 0 := by
  simp [rngOk, btw] at h
  omega
theorem rng_three {a b c : Int} (h : rngOk 3 a b c = true) : (1 ≤ a ∧ a ≤ 8) ∧ (1 ≤ b ∧ b ≤ 8) ∧ (1 ≤ c ∧ c ≤ 8) := by
  simp [rngOk, btw] at h
  omega

end Go.Proofs.YtfobcnhibhbbaaaGreatDoor.Ev
