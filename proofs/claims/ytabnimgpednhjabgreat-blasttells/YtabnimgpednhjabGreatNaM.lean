import Derived.Test.YtabnimgpednhjabGreatRc
import Derived.Test.YtabnimgpednhjabGreatXaM
import Derived.Test.YtabnimgpednhjabGreatMnM
namespace Go.Proofs.YtabnimgpednhjabGreat
open Go.RowKit
set_option maxRecDepth 100000
set_option maxHeartbeats 2000000 in
theorem made_14 (v a b c n wa wb wc : Int) (hfit : fitE 14 v n wa wb wc = 0) (ha : isW a wa = true) (hb : isW b wb = true) (w : World) :
   Calls Tryz.prog 41 #[.int .i64 14, .int .i64 v, .int .i64 a, .int .i64 b, .int .i64 c, .int .i64 n, arr3 wa wb wc] w fun e w' => e = .returned (.int .i64 (madeE 14 v a b c n wa wb)) ∧ Below w.heap.size w w' := by
 obtain ⟨hv, hr, hok, hn, _⟩ := fit_zero hfit
 obtain ⟨ba, bb, bc⟩ := rng_bd hr
 have hr1 : 1 ≤ wa := by
   simp [rngOk, takes, btw] at hr
   omega
 have h0 := isW_iff.1 ha
 have h1 := isW_iff.1 hb
 have ta := (two_bd ba).2
 have tb := (two_bd bb).2
 have g0 : 0 ≤ a ∧ a < 256 := by omega
 have g1 : 0 ≤ b ∧ b < 256 := by omega
 simp only [okOf] at hok
 obtain ⟨rfl, rfl⟩ : wa = v ∧ wb = v := by simpa using hok
 have tv := two_bd (v := wb) (by omega)
 have hvz : ¬ two wb = 0 := by omega
 have B1 : Hid _ := h0.2
 have B2 : Hid _ := h1.2
 clear hfit hr hok hn ha hb
 by_cases hz : wb ≤ b
 · have Hm : Hid (madeE 14 wb a b c n wb wb = 0) := by show (if wb ≤ b then 0 else a * two b % two wb) = _; rw [if_pos hz]
   go_enter Tryz.func41, Tryz.ntmps41
   go_wp2_with (first | (go_at_call 14; refine (two_any _ (by omega) (by omega) _).mono ?_; rintro e w' ⟨rfl, rfl⟩))
   go_ret
   exact ⟨ret_int Hm.out.symm, by repeat (first | exact Below.refl _ _ | refine bal ?_ _)⟩
 · have Hm : Hid (madeE 14 wb a b c n wb wb = a * two b % two wb) := by show (if wb ≤ b then 0 else a * two b % two wb) = _; rw [if_neg hz]
   have tb2 := two_bd (v := b) (by omega)
   have q1 : 0 ≤ a * two b := Int.mul_nonneg (by omega) (by omega)
   have q2 : a * two b ≤ 256 * 256 := Int.mul_le_mul (by omega) (by omega) (by omega) (by omega)
   have hnz : ¬ two b = 0 := by omega
   go_enter Tryz.func41, Tryz.ntmps41
   go_wp2_with (first | (go_at_call 14; refine (two_any _ (by omega) (by omega) _).mono ?_; rintro e w' ⟨rfl, rfl⟩))
   go_ret
   exact ⟨ret_int Hm.out.symm, by repeat (first | exact Below.refl _ _ | refine bal ?_ _)⟩
set_option maxHeartbeats 2000000 in
theorem made_15 (v a b c n wa wb wc : Int) (hfit : fitE 15 v n wa wb wc = 0) (ha : isW a wa = true) (hb : isW b wb = true) (w : World) :
   Calls Tryz.prog 41 #[.int .i64 15, .int .i64 v, .int .i64 a, .int .i64 b, .int .i64 c, .int .i64 n, arr3 wa wb wc] w fun e w' => e = .returned (.int .i64 (madeE 15 v a b c n wa wb)) ∧ Below w.heap.size w w' := by
 obtain ⟨hv, hr, hok, hn, _⟩ := fit_zero hfit
 obtain ⟨ba, bb, bc⟩ := rng_bd hr
 have hr1 : 1 ≤ wa := by
   simp [rngOk, takes, btw] at hr
   omega
 have h0 := isW_iff.1 ha
 have h1 := isW_iff.1 hb
 have ta := (two_bd ba).2
 have tb := (two_bd bb).2
 have g0 : 0 ≤ a ∧ a < 256 := by omega
 have g1 : 0 ≤ b ∧ b < 256 := by omega
 simp only [okOf] at hok
 obtain ⟨rfl, rfl⟩ : wa = v ∧ wb = v := by simpa using hok
 have tv := two_bd (v := wb) (by omega)
 have hvz : ¬ two wb = 0 := by omega
 have B1 : Hid _ := h0.2
 have B2 : Hid _ := h1.2
 clear hfit hr hok hn ha hb
 by_cases hz : wb ≤ b
 · have Hm : Hid (madeE 15 wb a b c n wb wb = 0) := by show (if wb ≤ b then 0 else a / two b) = _; rw [if_pos hz]
   go_enter Tryz.func41, Tryz.ntmps41
   go_wp2_with (first | (go_at_call 14; refine (two_any _ (by omega) (by omega) _).mono ?_; rintro e w' ⟨rfl, rfl⟩))
   go_ret
   exact ⟨ret_int Hm.out.symm, by repeat (first | exact Below.refl _ _ | refine bal ?_ _)⟩
 · have Hm : Hid (madeE 15 wb a b c n wb wb = a / two b) := by show (if wb ≤ b then 0 else a / two b) = _; rw [if_neg hz]
   have tb2 := two_bd (v := b) (by omega)
   have q1 : 0 ≤ a * two b := Int.mul_nonneg (by omega) (by omega)
   have q2 : a * two b ≤ 256 * 256 := Int.mul_le_mul (by omega) (by omega) (by omega) (by omega)
   have hnz : ¬ two b = 0 := by omega
   go_enter Tryz.func41, Tryz.ntmps41
   go_wp2_with (first | (go_at_call 14; refine (two_any _ (by omega) (by omega) _).mono ?_; rintro e w' ⟨rfl, rfl⟩))
   go_ret
   exact ⟨ret_int Hm.out.symm, by repeat (first | exact Below.refl _ _ | refine bal ?_ _)⟩
set_option maxHeartbeats 2000000 in
theorem made_16 (v a b c n wa wb wc : Int) (hfit : fitE 16 v n wa wb wc = 0) (ha : isW a wa = true) (hb : isW b wb = true) (w : World) :
   Calls Tryz.prog 41 #[.int .i64 16, .int .i64 v, .int .i64 a, .int .i64 b, .int .i64 c, .int .i64 n, arr3 wa wb wc] w fun e w' => e = .returned (.int .i64 (madeE 16 v a b c n wa wb)) ∧ Below w.heap.size w w' := by
 obtain ⟨hv, hr, hok, hn, _⟩ := fit_zero hfit
 obtain ⟨ba, bb, bc⟩ := rng_bd hr
 have hr1 : 1 ≤ wa := by
   simp [rngOk, takes, btw] at hr
   omega
 have h0 := isW_iff.1 ha
 have h1 := isW_iff.1 hb
 have ta := (two_bd ba).2
 have tb := (two_bd bb).2
 have g0 : 0 ≤ a ∧ a < 256 := by omega
 have g1 : 0 ≤ b ∧ b < 256 := by omega
 simp only [okOf] at hok
 obtain ⟨rfl, e1⟩ : wa = wb ∧ v = 1 := by simpa using hok
 clear e1
 have tv := two_bd (v := v) (by omega)
 have hvz : ¬ two v = 0 := by omega
 have B1 : Hid _ := h0.2
 have B2 : Hid _ := h1.2
 clear hfit hr hok hn ha hb
 go_enter Tryz.func41, Tryz.ntmps41
 go_wp2_with (first | (go_at_call 14; refine (two_any _ (by omega) (by omega) _).mono ?_; rintro e w' ⟨rfl, rfl⟩) | (go_at_call 64; refine (yes_any _ _).mono ?_; rintro e w' ⟨rfl, rfl⟩))
 go_ret
 exact ⟨rfl, by repeat (first | exact Below.refl _ _ | refine bal ?_ _)⟩
set_option maxHeartbeats 2000000 in
theorem made_17 (v a b c n wa wb wc : Int) (hfit : fitE 17 v n wa wb wc = 0) (ha : isW a wa = true) (hb : isW b wb = true) (w : World) :
   Calls Tryz.prog 41 #[.int .i64 17, .int .i64 v, .int .i64 a, .int .i64 b, .int .i64 c, .int .i64 n, arr3 wa wb wc] w fun e w' => e = .returned (.int .i64 (madeE 17 v a b c n wa wb)) ∧ Below w.heap.size w w' := by
 obtain ⟨hv, hr, hok, hn, _⟩ := fit_zero hfit
 obtain ⟨ba, bb, bc⟩ := rng_bd hr
 have hr1 : 1 ≤ wa := by
   simp [rngOk, takes, btw] at hr
   omega
 have h0 := isW_iff.1 ha
 have h1 := isW_iff.1 hb
 have ta := (two_bd ba).2
 have tb := (two_bd bb).2
 have g0 : 0 ≤ a ∧ a < 256 := by omega
 have g1 : 0 ≤ b ∧ b < 256 := by omega
 simp only [okOf] at hok
 obtain ⟨rfl, e1⟩ : wa = wb ∧ v = 1 := by simpa using hok
 clear e1
 have tv := two_bd (v := v) (by omega)
 have hvz : ¬ two v = 0 := by omega
 have B1 : Hid _ := h0.2
 have B2 : Hid _ := h1.2
 clear hfit hr hok hn ha hb
 go_enter Tryz.func41, Tryz.ntmps41
 go_wp2_with (first | (go_at_call 14; refine (two_any _ (by omega) (by omega) _).mono ?_; rintro e w' ⟨rfl, rfl⟩) | (go_at_call 64; refine (yes_any _ _).mono ?_; rintro e w' ⟨rfl, rfl⟩))
 go_ret
 exact ⟨rfl, by repeat (first | exact Below.refl _ _ | refine bal ?_ _)⟩
set_option maxHeartbeats 2000000 in
theorem made_18 (v a b c n wa wb wc : Int) (hfit : fitE 18 v n wa wb wc = 0) (ha : isW a wa = true) (hb : isW b wb = true) (w : World) :
   Calls Tryz.prog 41 #[.int .i64 18, .int .i64 v, .int .i64 a, .int .i64 b, .int .i64 c, .int .i64 n, arr3 wa wb wc] w fun e w' => e = .returned (.int .i64 (madeE 18 v a b c n wa wb)) ∧ Below w.heap.size w w' := by
 obtain ⟨hv, hr, hok, hn, _⟩ := fit_zero hfit
 obtain ⟨ba, bb, bc⟩ := rng_bd hr
 have hr1 : 1 ≤ wa := by
   simp [rngOk, takes, btw] at hr
   omega
 have h0 := isW_iff.1 ha
 have h1 := isW_iff.1 hb
 have ta := (two_bd ba).2
 have tb := (two_bd bb).2
 have g0 : 0 ≤ a ∧ a < 256 := by omega
 have g1 : 0 ≤ b ∧ b < 256 := by omega
 simp only [okOf] at hok
 obtain ⟨rfl, e1⟩ : wa = wb ∧ v = 1 := by simpa using hok
 clear e1
 have tv := two_bd (v := v) (by omega)
 have hvz : ¬ two v = 0 := by omega
 have B1 : Hid _ := h0.2
 have B2 : Hid _ := h1.2
 clear hfit hr hok hn ha hb
 go_enter Tryz.func41, Tryz.ntmps41
 go_wp2_with fail
 refine (two_any _ (by omega) (by omega) _).mono ?_
 rintro e w' ⟨rfl, rfl⟩
 go_wp2_with fail
 go_quiet (first | (go_at_call_of 65 (Value.int IntKind.i64 a); exact Calls.quiet_of_same (signedR_any a wa (by omega) (by omega) B1.out _)) | (go_at_call_of 65 (Value.int IntKind.i64 b); exact Calls.quiet_of_same (signedR_any b wa (by omega) (by omega) B2.out _)) | (go_at_call 64; exact Calls.quiet_of_same (yes_any _ _)))
 go_wp2
 go_ret
 exact ⟨rfl, below_drewN (bal (Below.refl _ _) _) _⟩
set_option maxHeartbeats 2000000 in
theorem made_19 (v a b c n wa wb wc : Int) (hfit : fitE 19 v n wa wb wc = 0) (ha : isW a wa = true) (hb : isW b wb = true) (w : World) :
   Calls Tryz.prog 41 #[.int .i64 19, .int .i64 v, .int .i64 a, .int .i64 b, .int .i64 c, .int .i64 n, arr3 wa wb wc] w fun e w' => e = .returned (.int .i64 (madeE 19 v a b c n wa wb)) ∧ Below w.heap.size w w' := by
 obtain ⟨hv, hr, hok, hn, _⟩ := fit_zero hfit
 obtain ⟨ba, bb, bc⟩ := rng_bd hr
 have hr1 : 1 ≤ wa := by
   simp [rngOk, takes, btw] at hr
   omega
 have h0 := isW_iff.1 ha
 have h1 := isW_iff.1 hb
 have ta := (two_bd ba).2
 have tb := (two_bd bb).2
 have g0 : 0 ≤ a ∧ a < 256 := by omega
 have g1 : 0 ≤ b ∧ b < 256 := by omega
 simp only [okOf] at hok
 obtain ⟨⟨e1, rfl⟩, e2⟩ : (wa = 1 ∧ wb = v) ∧ wc = v := by simpa using hok
 clear e1 e2
 have tv := two_bd (v := wb) (by omega)
 have hvz : ¬ two wb = 0 := by omega
 have B1 : Hid _ := h0.2
 have B2 : Hid _ := h1.2
 clear hfit hr hok hn ha hb
 by_cases hz : a = 1
 · have Hm : Hid (madeE 19 wb a b c n wa wb = b) := by show (if a = 1 then b else c) = _; rw [if_pos hz]
   have hb0 : (a == 1) = true := by simp [hz]
   clear hz
   go_enter Tryz.func41, Tryz.ntmps41
   go_wp2_with (first | (go_at_call 14; refine (two_any _ (by omega) (by omega) _).mono ?_; rintro e w' ⟨rfl, rfl⟩))
   go_ret
   exact ⟨ret_int Hm.out.symm, by repeat (first | exact Below.refl _ _ | refine bal ?_ _)⟩
 · have Hm : Hid (madeE 19 wb a b c n wa wb = c) := by show (if a = 1 then b else c) = _; rw [if_neg hz]
   have hb0 : (a == 1) = false := by simp [hz]
   go_enter Tryz.func41, Tryz.ntmps41
   go_wp2_with (first | (go_at_call 14; refine (two_any _ (by omega) (by omega) _).mono ?_; rintro e w' ⟨rfl, rfl⟩))
   go_ret
   exact ⟨ret_int Hm.out.symm, by repeat (first | exact Below.refl _ _ | refine bal ?_ _)⟩
set_option maxHeartbeats 2000000 in
theorem made_20 (v a b c n wa wb wc : Int) (hfit : fitE 20 v n wa wb wc = 0) (ha : isW a wa = true) (hb : isW b wb = true) (w : World) :
   Calls Tryz.prog 41 #[.int .i64 20, .int .i64 v, .int .i64 a, .int .i64 b, .int .i64 c, .int .i64 n, arr3 wa wb wc] w fun e w' => e = .returned (.int .i64 (madeE 20 v a b c n wa wb)) ∧ Below w.heap.size w w' := by
 obtain ⟨hv, hr, hok, hn, _⟩ := fit_zero hfit
 obtain ⟨ba, bb, bc⟩ := rng_bd hr
 have hr1 : 1 ≤ wa := by
   simp [rngOk, takes, btw] at hr
   omega
 have h0 := isW_iff.1 ha
 have h1 := isW_iff.1 hb
 have ta := (two_bd ba).2
 have tb := (two_bd bb).2
 have g0 : 0 ≤ a ∧ a < 256 := by omega
 have g1 : 0 ≤ b ∧ b < 256 := by omega
 simp only [okOf] at hok
 have hsum : wa + wb = v := by simpa using hok
 have tv := two_bd (v := v) (by omega)
 have hj := join_or a b wa wb (by omega) (by omega) (by omega) h0.1 h0.2 h1.1 h1.2
 have q1 : 0 ≤ a * two wb := Int.mul_nonneg h0.1 (Int.le_of_lt (two_pos wb))
 have q2 := hj.1
 clear hj
 have hvz : ¬ two v = 0 := by omega
 have B1 : Hid _ := h0.2
 have B2 : Hid _ := h1.2
 clear hfit hr hok hn ha hb
 go_enter Tryz.func41, Tryz.ntmps41
 go_wp2_with (first | (go_at_call 14; refine (two_any _ (by omega) (by omega) _).mono ?_; rintro e w' ⟨rfl, rfl⟩))
 go_ret
 exact ⟨rfl, by repeat (first | exact Below.refl _ _ | refine bal ?_ _)⟩
set_option maxHeartbeats 2000000 in
theorem made_21 (v a b c n wa wb wc : Int) (hfit : fitE 21 v n wa wb wc = 0) (ha : isW a wa = true) (hb : isW b wb = true) (w : World) :
   Calls Tryz.prog 41 #[.int .i64 21, .int .i64 v, .int .i64 a, .int .i64 b, .int .i64 c, .int .i64 n, arr3 wa wb wc] w fun e w' => e = .returned (.int .i64 (madeE 21 v a b c n wa wb)) ∧ Below w.heap.size w w' := by
 obtain ⟨hv, hr, hok, hn, _⟩ := fit_zero hfit
 obtain ⟨ba, bb, bc⟩ := rng_bd hr
 have hr1 : 1 ≤ wa := by
   simp [rngOk, takes, btw] at hr
   omega
 have h0 := isW_iff.1 ha
 have h1 := isW_iff.1 hb
 have ta := (two_bd ba).2
 have tb := (two_bd bb).2
 have g0 : 0 ≤ a ∧ a < 256 := by omega
 have g1 : 0 ≤ b ∧ b < 256 := by omega
 simp only [okOf] at hok
 have hcut : (0 ≤ n ∧ n ≤ 8) ∧ n + v ≤ wa := by simpa using hok
 have tv := two_bd (v := v) (by omega)
 have tn := two_bd (v := n) (by omega)
 have hnz : ¬ two n = 0 := by omega
 have q1 := Int.ediv_nonneg h0.1 (show 0 ≤ two n from by omega)
 have q2 := Int.ediv_le_self (two n) h0.1
 have hvz : ¬ two v = 0 := by omega
 have B1 : Hid _ := h0.2
 have B2 : Hid _ := h1.2
 clear hfit hr hok hn ha hb
 go_enter Tryz.func41, Tryz.ntmps41
 go_wp2_with (first | (go_at_call 14; refine (two_any _ (by omega) (by omega) _).mono ?_; rintro e w' ⟨rfl, rfl⟩))
 go_ret
 exact ⟨rfl, by repeat (first | exact Below.refl _ _ | refine bal ?_ _)⟩
set_option maxHeartbeats 2000000 in
theorem made_22 (v a b c n wa wb wc : Int) (hfit : fitE 22 v n wa wb wc = 0) (ha : isW a wa = true) (hb : isW b wb = true) (w : World) :
   Calls Tryz.prog 41 #[.int .i64 22, .int .i64 v, .int .i64 a, .int .i64 b, .int .i64 c, .int .i64 n, arr3 wa wb wc] w fun e w' => e = .returned (.int .i64 (madeE 22 v a b c n wa wb)) ∧ Below w.heap.size w w' := by
 obtain ⟨hv, hr, hok, hn, _⟩ := fit_zero hfit
 obtain ⟨ba, bb, bc⟩ := rng_bd hr
 have hr1 : 1 ≤ wa := by
   simp [rngOk, takes, btw] at hr
   omega
 have h0 := isW_iff.1 ha
 have h1 := isW_iff.1 hb
 have ta := (two_bd ba).2
 have tb := (two_bd bb).2
 have g0 : 0 ≤ a ∧ a < 256 := by omega
 have g1 : 0 ≤ b ∧ b < 256 := by omega
 simp only [okOf] at hok
 have hle : wa ≤ v := by simpa using hok
 have tv := two_bd (v := v) (by omega)
 have hvz : ¬ two v = 0 := by omega
 have B1 : Hid _ := h0.2
 have B2 : Hid _ := h1.2
 clear hfit hr hok hn ha hb
 go_enter Tryz.func41, Tryz.ntmps41
 go_wp2_with (first | (go_at_call 14; refine (two_any _ (by omega) (by omega) _).mono ?_; rintro e w' ⟨rfl, rfl⟩))
 go_ret
 exact ⟨rfl, by repeat (first | exact Below.refl _ _ | refine bal ?_ _)⟩
set_option maxHeartbeats 2000000 in
theorem made_23 (v a b c n wa wb wc : Int) (hfit : fitE 23 v n wa wb wc = 0) (ha : isW a wa = true) (hb : isW b wb = true) (w : World) :
   Calls Tryz.prog 41 #[.int .i64 23, .int .i64 v, .int .i64 a, .int .i64 b, .int .i64 c, .int .i64 n, arr3 wa wb wc] w fun e w' => e = .returned (.int .i64 (madeE 23 v a b c n wa wb)) ∧ Below w.heap.size w w' := by
 obtain ⟨hv, hr, hok, hn, _⟩ := fit_zero hfit
 obtain ⟨ba, bb, bc⟩ := rng_bd hr
 have hr1 : 1 ≤ wa := by
   simp [rngOk, takes, btw] at hr
   omega
 have h0 := isW_iff.1 ha
 have h1 := isW_iff.1 hb
 have ta := (two_bd ba).2
 have tb := (two_bd bb).2
 have g0 : 0 ≤ a ∧ a < 256 := by omega
 have g1 : 0 ≤ b ∧ b < 256 := by omega
 simp only [okOf] at hok
 have hle : wa ≤ v := by simpa using hok
 have tv := two_bd (v := v) (by omega)
 have q1 := sgn_bd a wa h0.1 h0.2
 have q2 := two_mono wa v (by omega) hle
 have hvz : ¬ two v = 0 := by omega
 have B1 : Hid _ := h0.2
 have B2 : Hid _ := h1.2
 clear hfit hr hok hn ha hb
 go_enter Tryz.func41, Tryz.ntmps41
 go_wp2_with (first | (go_at_call 14; refine (two_any _ (by omega) (by omega) _).mono ?_; rintro e w' ⟨rfl, rfl⟩) | (go_at_call 65; refine (signedR_any a wa (by omega) (by omega) B1.out _).mono ?_; rintro e w' ⟨rfl, rfl⟩))
 go_ret
 exact ⟨rfl, by repeat (first | exact Below.refl _ _ | refine bal ?_ _)⟩
end Go.Proofs.YtabnimgpednhjabGreat

namespace Go.Proofs.YtabnimgpednhjabGreat
open Go.RowKit
set_option maxRecDepth 100000
theorem made_right (k v a b c n wa wb wc : Int) (hfit : fitE k v n wa wb wc = 0) (ha : isW a wa = true) (hb : isW b wb = true) (w : World) :
   Calls Tryz.prog 41 #[.int .i64 k, .int .i64 v, .int .i64 a, .int .i64 b, .int .i64 c, .int .i64 n, arr3 wa wb wc] w fun e w' => e = .returned (.int .i64 (madeE k v a b c n wa wb)) ∧ Below w.heap.size w w' := by
 rcases kinds20 (fit_zero hfit).2.2.2.2 with rfl | rfl | rfl | rfl | rfl | rfl | rfl | rfl | rfl | rfl | rfl | rfl | rfl | rfl | rfl | rfl | rfl | rfl | rfl | rfl
 · exact made_4 v a b c n wa wb wc hfit ha hb w
 · exact made_5 v a b c n wa wb wc hfit ha hb w
 · exact made_6 v a b c n wa wb wc hfit ha hb w
 · exact made_7 v a b c n wa wb wc hfit ha hb w
 · exact made_8 v a b c n wa wb wc hfit ha hb w
 · exact made_9 v a b c n wa wb wc hfit ha hb w
 · exact made_10 v a b c n wa wb wc hfit ha hb w
 · exact made_11 v a b c n wa wb wc hfit ha hb w
 · exact made_12 v a b c n wa wb wc hfit ha hb w
 · exact made_13 v a b c n wa wb wc hfit ha hb w
 · exact made_14 v a b c n wa wb wc hfit ha hb w
 · exact made_15 v a b c n wa wb wc hfit ha hb w
 · exact made_16 v a b c n wa wb wc hfit ha hb w
 · exact made_17 v a b c n wa wb wc hfit ha hb w
 · exact made_18 v a b c n wa wb wc hfit ha hb w
 · exact made_19 v a b c n wa wb wc hfit ha hb w
 · exact made_20 v a b c n wa wb wc hfit ha hb w
 · exact made_21 v a b c n wa wb wc hfit ha hb w
 · exact made_22 v a b c n wa wb wc hfit ha hb w
 · exact made_23 v a b c n wa wb wc hfit ha hb w
abbrev ap (w : World) (b o : Nat) (x : Int) : Prop := w.cell? ⟨b, o, none⟩ = some (.int .i64 x)
def AppF (w wr : World) (S : Nat) (a b c wa wb wc : Int) : Prop :=
 Below w.heap.size w wr ∧ (ap wr w.heap.size 0 a ∧ ap wr w.heap.size 1 b ∧ ap wr w.heap.size 2 c) ∧ (ap wr (w.heap.size + 1) 0 wa ∧ ap wr (w.heap.size + 1) 1 wb ∧ ap wr (w.heap.size + 1) 2 wc) ∧ (ap wr S 0 a ∧ ap wr S 1 b ∧ ap wr S 2 c)
theorem AppF.drew {w wr : World} {S : Nat} {a b c wa wb wc : Int} (h : AppF w wr S a b c wa wb wc) (n : Nat) : AppF w (wr.drewN n) S a b c wa wb wc :=
 ⟨below_drewN h.1 n, h.2⟩
end Go.Proofs.YtabnimgpednhjabGreat

namespace Go.Proofs.YtabnimgpednhjabGreat
open Go.RowKit
set_option maxRecDepth 100000
set_option maxHeartbeats 1000000 in
theorem widthsOf_any (p : Option Addr) (cap : Nat) (ns : List Nd) (_hl : ns.length ≤ 80) (k v x y z n : Int) (w : World) (hN : NodesAt w p ns) (hlen : 0 < ns.length)
   (hx : 0 < takes k → 0 ≤ x ∧ x < ns.length) (hy : 1 < takes k → 0 ≤ y ∧ y < ns.length) (hz : 2 < takes k → 0 ≤ z ∧ z < ns.length) :
   Calls Tryz.prog 42 #[.slice p ns.length cap, .agg #[.int .i64 k, .int .i64 v, .int .i64 x, .int .i64 y, .int .i64 z, .int .i64 n]] w fun e w' =>
     e = .returned (arr3 (wds ns (takes k) 0 x) (wds ns (takes k) 1 y) (wds ns (takes k) 2 z)) ∧ Below w.heap.size w w' := by
 obtain ⟨b, off, rfl, hc⟩ := hN (by omega)
 have HC := hide hc
 have hw := takes_any k
 have h4 := takes_four k
 clear hc hN
 rcases h4 with ht | ht | ht | ht
 · rw [ht] at hw hx hy hz ⊢
   have Hw := hide hw
   have HE : Hid (wds ns 0 0 x = 0 ∧ wds ns 0 1 y = 0 ∧ wds ns 0 2 z = 0) := ⟨rfl, rfl, rfl⟩
   clear hw ht hx hy hz
   rw [HE.out.1, HE.out.2.1, HE.out.2.2]
   go_enter Tryz.func42, Tryz.ntmps42
   go_wp2_with (go_at_call 61; refine (Hw.out _).mono ?_; rintro e w' ⟨rfl, rfl⟩)
   exact bodyPost_ret (v := arr3 0 0 0) (by simp [results, Tryz.results42, go_sem]) rfl ⟨rfl, bal (bal (bal (Below.refl _ _) _) _) _⟩
 · rw [ht] at hw hx hy hz ⊢
   have Hw := hide hw
   have hx' := hx (by omega)
   have u0 := fun o1 o2 o3 => past1 (past2 (wd_cell HC.out x hx'.1 hx'.2) o1 o2) o3
   have HE : Hid (wds ns 1 0 x = wdOf ns x ∧ wds ns 1 1 y = 0 ∧ wds ns 1 2 z = 0) := ⟨rfl, rfl, rfl⟩
   clear hw ht hx hy hz
   rw [HE.out.1, HE.out.2.1, HE.out.2.2]
   go_enter Tryz.func42, Tryz.ntmps42
   go_wp2_with (go_at_call 61; refine (Hw.out _).mono ?_; rintro e w' ⟨rfl, rfl⟩)
   exact bodyPost_ret (v := arr3 (wdOf ns x) 0 0) (by simp [results, Tryz.results42, go_sem]) rfl ⟨rfl, bal (bal (bal (Below.refl _ _) _) _) _⟩
 · rw [ht] at hw hx hy hz ⊢
   have Hw := hide hw
   have hx' := hx (by omega)
   have hy' := hy (by omega)
   have u0 := fun o1 o2 o3 => past1 (past2 (wd_cell HC.out x hx'.1 hx'.2) o1 o2) o3
   have u1 := fun o1 o2 o3 => past1 (past2 (wd_cell HC.out y hy'.1 hy'.2) o1 o2) o3
   have HE : Hid (wds ns 2 0 x = wdOf ns x ∧ wds ns 2 1 y = wdOf ns y ∧ wds ns 2 2 z = 0) := ⟨rfl, rfl, rfl⟩
   clear hw ht hx hy hz
   rw [HE.out.1, HE.out.2.1, HE.out.2.2]
   go_enter Tryz.func42, Tryz.ntmps42
   go_wp2_with (go_at_call 61; refine (Hw.out _).mono ?_; rintro e w' ⟨rfl, rfl⟩)
   exact bodyPost_ret (v := arr3 (wdOf ns x) (wdOf ns y) 0) (by simp [results, Tryz.results42, go_sem]) rfl ⟨rfl, bal (bal (bal (Below.refl _ _) _) _) _⟩
 · rw [ht] at hw hx hy hz ⊢
   have Hw := hide hw
   have hx' := hx (by omega)
   have hy' := hy (by omega)
   have hz' := hz (by omega)
   have u0 := fun o1 o2 o3 => past1 (past2 (wd_cell HC.out x hx'.1 hx'.2) o1 o2) o3
   have u1 := fun o1 o2 o3 => past1 (past2 (wd_cell HC.out y hy'.1 hy'.2) o1 o2) o3
   have u2 := fun o1 o2 o3 => past1 (past2 (wd_cell HC.out z hz'.1 hz'.2) o1 o2) o3
   have HE : Hid (wds ns 3 0 x = wdOf ns x ∧ wds ns 3 1 y = wdOf ns y ∧ wds ns 3 2 z = wdOf ns z) := ⟨rfl, rfl, rfl⟩
   clear hw ht hx hy hz
   rw [HE.out.1, HE.out.2.1, HE.out.2.2]
   go_enter Tryz.func42, Tryz.ntmps42
   go_wp2_with (go_at_call 61; refine (Hw.out _).mono ?_; rintro e w' ⟨rfl, rfl⟩)
   exact bodyPost_ret (v := arr3 (wdOf ns x) (wdOf ns y) (wdOf ns z)) (by simp [results, Tryz.results42, go_sem]) rfl ⟨rfl, bal (bal (bal (Below.refl _ _) _) _) _⟩
end Go.Proofs.YtabnimgpednhjabGreat
