/- The plain text's Made, where all is right. -/
import Derived.Test.YtfobcnhibhbbaaaRc
import Derived.Test.YtfobcnhibhbbaaaXaM
namespace Go.Proofs.Ytfobcnhibhbbaaa
open Go.RowKit
set_option maxRecDepth 100000


set_option maxRecDepth 100000 in
set_option maxHeartbeats 2000000 in
theorem made_14 (v a b c n wa wb wc : Int) (hfit : fitE 14 v n wa wb wc = 0) (ha : isW a wa = true) (hb : isW b wb = true) (w : World) :
    Calls Try.prog 44 #[.int .i64 14, .int .i64 v, .int .i64 a, .int .i64 b, .int .i64 c, .int .i64 n, arr3 wa wb wc] w fun e w' => e = .returned (.int .i64 (madeE 14 v a b c n wa wb)) ∧ Below w.heap.size w w' := by
  obtain ⟨hv, hr, hok, hn, _⟩ := fit_zero hfit
  obtain ⟨ba, bb, bc⟩ := rng_bd hr
  have hr1 : 1 ≤ wa := by
    simp [rngOk, takes, btw] at hr
    omega
  have h0 := isW_iff.1 ha
  have h1 := isW_iff.1 hb
  have ta := (two_bd ba).2
  have tb := (two_bd bb).2
  have g0 : 0 ≤ a ∧ a < 256 := by omega
  have g1 : 0 ≤ b ∧ b < 256 := by omega
  simp only [okOf] at hok
  obtain ⟨rfl, rfl⟩ : wa = v ∧ wb = v := by simpa using hok
  have tv := two_bd (v := wb) (by omega)
  have hvz : ¬ two wb = 0 := by omega
  have B1 : Hid _ := h0.2
  have B2 : Hid _ := h1.2
  clear hfit hr hok hn ha hb
  by_cases hz : wb ≤ b
  · have Hm : Hid (madeE 14 wb a b c n wb wb = 0) := by show (if wb ≤ b then 0 else a * two b % two wb) = _; rw [if_pos hz]
    go_enter Try.func44, Try.ntmps44
    go_wp2_with (first | (go_at_call 23; refine (two_any _ (by omega) (by omega) _).mono ?_; rintro e w' ⟨rfl, rfl⟩))
    go_ret
    exact ⟨ret_int Hm.out.symm, by repeat (first | exact Below.refl _ _ | refine bal ?_ _)⟩
  · have Hm : Hid (madeE 14 wb a b c n wb wb = a * two b % two wb) := by show (if wb ≤ b then 0 else a * two b % two wb) = _; rw [if_neg hz]
    have tb2 := two_bd (v := b) (by omega)
    have q1 : 0 ≤ a * two b := Int.mul_nonneg (by omega) (by omega)
    have q2 : a * two b ≤ 256 * 256 := Int.mul_le_mul (by omega) (by omega) (by omega) (by omega)
    have hnz : ¬ two b = 0 := by omega
    go_enter Try.func44, Try.ntmps44
    go_wp2_with (first | (go_at_call 23; refine (two_any _ (by omega) (by omega) _).mono ?_; rintro e w' ⟨rfl, rfl⟩))
    go_ret
    exact ⟨ret_int Hm.out.symm, by repeat (first | exact Below.refl _ _ | refine bal ?_ _)⟩

set_option maxRecDepth 100000 in
set_option maxHeartbeats 2000000 in
theorem made_15 (v a b c n wa wb wc : Int) (hfit : fitE 15 v n wa wb wc = 0) (ha : isW a wa = true) (hb : isW b wb = true) (w : World) :
    Calls Try.prog 44 #[.int .i64 15, .int .i64 v, .int .i64 a, .int .i64 b, .int .i64 c, .int .i64 n, arr3 wa wb wc] w fun e w' => e = .returned (.int .i64 (madeE 15 v a b c n wa wb)) ∧ Below w.heap.size w w' := by
  obtain ⟨hv, hr, hok, hn, _⟩ := fit_zero hfit
  obtain ⟨ba, bb, bc⟩ := rng_bd hr
  have hr1 : 1 ≤ wa := by
    simp [rngOk, takes, btw] at hr
    omega
  have h0 := isW_iff.1 ha
  have h1 := isW_iff.1 hb
  have ta := (two_bd ba).2
  have tb := (two_bd bb).2
  have g0 : 0 ≤ a ∧ a < 256 := by omega
  have g1 : 0 ≤ b ∧ b < 256 := by omega
  simp only [okOf] at hok
  obtain ⟨rfl, rfl⟩ : wa = v ∧ wb = v := by simpa using hok
  have tv := two_bd (v := wb) (by omega)
  have hvz : ¬ two wb = 0 := by omega
  have B1 : Hid _ := h0.2
  have B2 : Hid _ := h1.2
  clear hfit hr hok hn ha hb
  by_cases hz : wb ≤ b
  · have Hm : Hid (madeE 15 wb a b c n wb wb = 0) := by show (if wb ≤ b then 0 else a / two b) = _; rw [if_pos hz]
    go_enter Try.func44, Try.ntmps44
    go_wp2_with (first | (go_at_call 23; refine (two_any _ (by omega) (by omega) _).mono ?_; rintro e w' ⟨rfl, rfl⟩))
    go_ret
    exact ⟨ret_int Hm.out.symm, by repeat (first | exact Below.refl _ _ | refine bal ?_ _)⟩
  · have Hm : Hid (madeE 15 wb a b c n wb wb = a / two b) := by show (if wb ≤ b then 0 else a / two b) = _; rw [if_neg hz]
    have tb2 := two_bd (v := b) (by omega)
    have q1 : 0 ≤ a * two b := Int.mul_nonneg (by omega) (by omega)
    have q2 : a * two b ≤ 256 * 256 := Int.mul_le_mul (by omega) (by omega) (by omega) (by omega)
    have hnz : ¬ two b = 0 := by omega
    go_enter Try.func44, Try.ntmps44
    go_wp2_with (first | (go_at_call 23; refine (two_any _ (by omega) (by omega) _).mono ?_; rintro e w' ⟨rfl, rfl⟩))
    go_ret
    exact ⟨ret_int Hm.out.symm, by repeat (first | exact Below.refl _ _ | refine bal ?_ _)⟩

set_option maxRecDepth 100000 in
set_option maxHeartbeats 2000000 in
theorem made_16 (v a b c n wa wb wc : Int) (hfit : fitE 16 v n wa wb wc = 0) (ha : isW a wa = true) (hb : isW b wb = true) (w : World) :
    Calls Try.prog 44 #[.int .i64 16, .int .i64 v, .int .i64 a, .int .i64 b, .int .i64 c, .int .i64 n, arr3 wa wb wc] w fun e w' => e = .returned (.int .i64 (madeE 16 v a b c n wa wb)) ∧ Below w.heap.size w w' := by
  obtain ⟨hv, hr, hok, hn, _⟩ := fit_zero hfit
  obtain ⟨ba, bb, bc⟩ := rng_bd hr
  have hr1 : 1 ≤ wa := by
    simp [rngOk, takes, btw] at hr
    omega
  have h0 := isW_iff.1 ha
  have h1 := isW_iff.1 hb
  have ta := (two_bd ba).2
  have tb := (two_bd bb).2
  have g0 : 0 ≤ a ∧ a < 256 := by omega
  have g1 : 0 ≤ b ∧ b < 256 := by omega
  simp only [okOf] at hok
  obtain ⟨rfl, e1⟩ : wa = wb ∧ v = 1 := by simpa using hok
  clear e1
  have tv := two_bd (v := v) (by omega)
  have hvz : ¬ two v = 0 := by omega
  have B1 : Hid _ := h0.2
  have B2 : Hid _ := h1.2
  clear hfit hr hok hn ha hb
  go_enter Try.func44, Try.ntmps44
  go_wp2_with (first | (go_at_call 23; refine (two_any _ (by omega) (by omega) _).mono ?_; rintro e w' ⟨rfl, rfl⟩) | (go_at_call 65; refine (yes_any _ _).mono ?_; rintro e w' ⟨rfl, rfl⟩))
  go_ret
  exact ⟨rfl, by repeat (first | exact Below.refl _ _ | refine bal ?_ _)⟩

set_option maxRecDepth 100000 in
set_option maxHeartbeats 2000000 in
theorem made_17 (v a b c n wa wb wc : Int) (hfit : fitE 17 v n wa wb wc = 0) (ha : isW a wa = true) (hb : isW b wb = true) (w : World) :
    Calls Try.prog 44 #[.int .i64 17, .int .i64 v, .int .i64 a, .int .i64 b, .int .i64 c, .int .i64 n, arr3 wa wb wc] w fun e w' => e = .returned (.int .i64 (madeE 17 v a b c n wa wb)) ∧ Below w.heap.size w w' := by
  obtain ⟨hv, hr, hok, hn, _⟩ := fit_zero hfit
  obtain ⟨ba, bb, bc⟩ := rng_bd hr
  have hr1 : 1 ≤ wa := by
    simp [rngOk, takes, btw] at hr
    omega
  have h0 := isW_iff.1 ha
  have h1 := isW_iff.1 hb
  have ta := (two_bd ba).2
  have tb := (two_bd bb).2
  have g0 : 0 ≤ a ∧ a < 256 := by omega
  have g1 : 0 ≤ b ∧ b < 256 := by omega
  simp only [okOf] at hok
  obtain ⟨rfl, e1⟩ : wa = wb ∧ v = 1 := by simpa using hok
  clear e1
  have tv := two_bd (v := v) (by omega)
  have hvz : ¬ two v = 0 := by omega
  have B1 : Hid _ := h0.2
  have B2 : Hid _ := h1.2
  clear hfit hr hok hn ha hb
  go_enter Try.func44, Try.ntmps44
  go_wp2_with (first | (go_at_call 23; refine (two_any _ (by omega) (by omega) _).mono ?_; rintro e w' ⟨rfl, rfl⟩) | (go_at_call 65; refine (yes_any _ _).mono ?_; rintro e w' ⟨rfl, rfl⟩))
  go_ret
  exact ⟨rfl, by repeat (first | exact Below.refl _ _ | refine bal ?_ _)⟩

set_option maxRecDepth 100000 in
set_option maxHeartbeats 2000000 in
theorem made_18 (v a b c n wa wb wc : Int) (hfit : fitE 18 v n wa wb wc = 0) (ha : isW a wa = true) (hb : isW b wb = true) (w : World) :
    Calls Try.prog 44 #[.int .i64 18, .int .i64 v, .int .i64 a, .int .i64 b, .int .i64 c, .int .i64 n, arr3 wa wb wc] w fun e w' => e = .returned (.int .i64 (madeE 18 v a b c n wa wb)) ∧ Below w.heap.size w w' := by
  obtain ⟨hv, hr, hok, hn, _⟩ := fit_zero hfit
  obtain ⟨ba, bb, bc⟩ := rng_bd hr
  have hr1 : 1 ≤ wa := by
    simp [rngOk, takes, btw] at hr
    omega
  have h0 := isW_iff.1 ha
  have h1 := isW_iff.1 hb
  have ta := (two_bd ba).2
  have tb := (two_bd bb).2
  have g0 : 0 ≤ a ∧ a < 256 := by omega
  have g1 : 0 ≤ b ∧ b < 256 := by omega
  simp only [okOf] at hok
  obtain ⟨rfl, e1⟩ : wa = wb ∧ v = 1 := by simpa using hok
  clear e1
  have tv := two_bd (v := v) (by omega)
  have hvz : ¬ two v = 0 := by omega
  have B1 : Hid _ := h0.2
  have B2 : Hid _ := h1.2
  clear hfit hr hok hn ha hb
  go_enter Try.func44, Try.ntmps44
  go_wp2_with fail
  refine (two_any _ (by omega) (by omega) _).mono ?_
  rintro e w' ⟨rfl, rfl⟩
  go_wp2_with fail
  go_quiet (first | (go_at_call_of 66 (Value.int IntKind.i64 a); exact Calls.quiet_of_same (signedR_any a wa (by omega) (by omega) B1.out _)) | (go_at_call_of 66 (Value.int IntKind.i64 b); exact Calls.quiet_of_same (signedR_any b wa (by omega) (by omega) B2.out _)) | (go_at_call 65; exact Calls.quiet_of_same (yes_any _ _)))
  go_wp2
  go_ret
  exact ⟨rfl, below_drewN (bal (Below.refl _ _) _) _⟩

set_option maxRecDepth 100000 in
set_option maxHeartbeats 2000000 in
theorem made_19 (v a b c n wa wb wc : Int) (hfit : fitE 19 v n wa wb wc = 0) (ha : isW a wa = true) (hb : isW b wb = true) (w : World) :
    Calls Try.prog 44 #[.int .i64 19, .int .i64 v, .int .i64 a, .int .i64 b, .int .i64 c, .int .i64 n, arr3 wa wb wc] w fun e w' => e = .returned (.int .i64 (madeE 19 v a b c n wa wb)) ∧ Below w.heap.size w w' := by
  obtain ⟨hv, hr, hok, hn, _⟩ := fit_zero hfit
  obtain ⟨ba, bb, bc⟩ := rng_bd hr
  have hr1 : 1 ≤ wa := by
    simp [rngOk, takes, btw] at hr
    omega
  have h0 := isW_iff.1 ha
  have h1 := isW_iff.1 hb
  have ta := (two_bd ba).2
  have tb := (two_bd bb).2
  have g0 : 0 ≤ a ∧ a < 256 := by omega
  have g1 : 0 ≤ b ∧ b < 256 := by omega
  simp only [okOf] at hok
  obtain ⟨⟨e1, rfl⟩, e2⟩ : (wa = 1 ∧ wb = v) ∧ wc = v := by simpa using hok
  clear e1 e2
  have tv := two_bd (v := wb) (by omega)
  have hvz : ¬ two wb = 0 := by omega
  have B1 : Hid _ := h0.2
  have B2 : Hid _ := h1.2
  clear hfit hr hok hn ha hb
  by_cases hz : a = 1
  · have Hm : Hid (madeE 19 wb a b c n wa wb = b) := by show (if a = 1 then b else c) = _; rw [if_pos hz]
    have hb0 : (a == 1) = true := by simp [hz]
    clear hz
    go_enter Try.func44, Try.ntmps44
    go_wp2_with (first | (go_at_call 23; refine (two_any _ (by omega) (by omega) _).mono ?_; rintro e w' ⟨rfl, rfl⟩))
    go_ret
    exact ⟨ret_int Hm.out.symm, by repeat (first | exact Below.refl _ _ | refine bal ?_ _)⟩
  · have Hm : Hid (madeE 19 wb a b c n wa wb = c) := by show (if a = 1 then b else c) = _; rw [if_neg hz]
    have hb0 : (a == 1) = false := by simp [hz]
    go_enter Try.func44, Try.ntmps44
    go_wp2_with (first | (go_at_call 23; refine (two_any _ (by omega) (by omega) _).mono ?_; rintro e w' ⟨rfl, rfl⟩))
    go_ret
    exact ⟨ret_int Hm.out.symm, by repeat (first | exact Below.refl _ _ | refine bal ?_ _)⟩

set_option maxRecDepth 100000 in
set_option maxHeartbeats 2000000 in
theorem made_20 (v a b c n wa wb wc : Int) (hfit : fitE 20 v n wa wb wc = 0) (ha : isW a wa = true) (hb : isW b wb = true) (w : World) :
    Calls Try.prog 44 #[.int .i64 20, .int .i64 v, .int .i64 a, .int .i64 b, .int .i64 c, .int .i64 n, arr3 wa wb wc] w fun e w' => e = .returned (.int .i64 (madeE 20 v a b c n wa wb)) ∧ Below w.heap.size w w' := by
  obtain ⟨hv, hr, hok, hn, _⟩ := fit_zero hfit
  obtain ⟨ba, bb, bc⟩ := rng_bd hr
  have hr1 : 1 ≤ wa := by
    simp [rngOk, takes, btw] at hr
    omega
  have h0 := isW_iff.1 ha
  have h1 := isW_iff.1 hb
  have ta := (two_bd ba).2
  have tb := (two_bd bb).2
  have g0 : 0 ≤ a ∧ a < 256 := by omega
  have g1 : 0 ≤ b ∧ b < 256 := by omega
  simp only [okOf] at hok
  have hsum : wa + wb = v := by simpa using hok
  have tv := two_bd (v := v) (by omega)
  have hj := join_or a b wa wb (by omega) (by omega) (by omega) h0.1 h0.2 h1.1 h1.2
  have q1 : 0 ≤ a * two wb := Int.mul_nonneg h0.1 (Int.le_of_lt (two_pos wb))
  have q2 := hj.1
  clear hj
  have hvz : ¬ two v = 0 := by omega
  have B1 : Hid _ := h0.2
  have B2 : Hid _ := h1.2
  clear hfit hr hok hn ha hb
  go_enter Try.func44, Try.ntmps44
  go_wp2_with (first | (go_at_call 23; refine (two_any _ (by omega) (by omega) _).mono ?_; rintro e w' ⟨rfl, rfl⟩))
  go_ret
  exact ⟨rfl, by repeat (first | exact Below.refl _ _ | refine bal ?_ _)⟩

set_option maxRecDepth 100000 in
set_option maxHeartbeats 2000000 in
theorem made_21 (v a b c n wa wb wc : Int) (hfit : fitE 21 v n wa wb wc = 0) (ha : isW a wa = true) (hb : isW b wb = true) (w : World) :
    Calls Try.prog 44 #[.int .i64 21, .int .i64 v, .int .i64 a, .int .i64 b, .int .i64 c, .int .i64 n, arr3 wa wb wc] w fun e w' => e = .returned (.int .i64 (madeE 21 v a b c n wa wb)) ∧ Below w.heap.size w w' := by
  obtain ⟨hv, hr, hok, hn, _⟩ := fit_zero hfit
  obtain ⟨ba, bb, bc⟩ := rng_bd hr
  have hr1 : 1 ≤ wa := by
    simp [rngOk, takes, btw] at hr
    omega
  have h0 := isW_iff.1 ha
  have h1 := isW_iff.1 hb
  have ta := (two_bd ba).2
  have tb := (two_bd bb).2
  have g0 : 0 ≤ a ∧ a < 256 := by omega
  have g1 : 0 ≤ b ∧ b < 256 := by omega
  simp only [okOf] at hok
  have hcut : (0 ≤ n ∧ n ≤ 8) ∧ n + v ≤ wa := by simpa using hok
  have tv := two_bd (v := v) (by omega)
  have tn := two_bd (v := n) (by omega)
  have hnz : ¬ two n = 0 := by omega
  have q1 := Int.ediv_nonneg h0.1 (show 0 ≤ two n from by omega)
  have q2 := Int.ediv_le_self (two n) h0.1
  have hvz : ¬ two v = 0 := by omega
  have B1 : Hid _ := h0.2
  have B2 : Hid _ := h1.2
  clear hfit hr hok hn ha hb
  go_enter Try.func44, Try.ntmps44
  go_wp2_with (first | (go_at_call 23; refine (two_any _ (by omega) (by omega) _).mono ?_; rintro e w' ⟨rfl, rfl⟩))
  go_ret
  exact ⟨rfl, by repeat (first | exact Below.refl _ _ | refine bal ?_ _)⟩

set_option maxRecDepth 100000 in
set_option maxHeartbeats 2000000 in
theorem made_22 (v a b c n wa wb wc : Int) (hfit : fitE 22 v n wa wb wc = 0) (ha : isW a wa = true) (hb : isW b wb = true) (w : World) :
    Calls Try.prog 44 #[.int .i64 22, .int .i64 v, .int .i64 a, .int .i64 b, .int .i64 c, .int .i64 n, arr3 wa wb wc] w fun e w' => e = .returned (.int .i64 (madeE 22 v a b c n wa wb)) ∧ Below w.heap.size w w' := by
  obtain ⟨hv, hr, hok, hn, _⟩ := fit_zero hfit
  obtain ⟨ba, bb, bc⟩ := rng_bd hr
  have hr1 : 1 ≤ wa := by
    simp [rngOk, takes, btw] at hr
    omega
  have h0 := isW_iff.1 ha
  have h1 := isW_iff.1 hb
  have ta := (two_bd ba).2
  have tb := (two_bd bb).2
  have g0 : 0 ≤ a ∧ a < 256 := by omega
  have g1 : 0 ≤ b ∧ b < 256 := by omega
  simp only [okOf] at hok
  have hle : wa ≤ v := by simpa using hok
  have tv := two_bd (v := v) (by omega)
  have hvz : ¬ two v = 0 := by omega
  have B1 : Hid _ := h0.2
  have B2 : Hid _ := h1.2
  clear hfit hr hok hn ha hb
  go_enter Try.func44, Try.ntmps44
  go_wp2_with (first | (go_at_call 23; refine (two_any _ (by omega) (by omega) _).mono ?_; rintro e w' ⟨rfl, rfl⟩))
  go_ret
  exact ⟨rfl, by repeat (first | exact Below.refl _ _ | refine bal ?_ _)⟩

set_option maxRecDepth 100000 in
set_option maxHeartbeats 2000000 in
theorem made_23 (v a b c n wa wb wc : Int) (hfit : fitE 23 v n wa wb wc = 0) (ha : isW a wa = true) (hb : isW b wb = true) (w : World) :
    Calls Try.prog 44 #[.int .i64 23, .int .i64 v, .int .i64 a, .int .i64 b, .int .i64 c, .int .i64 n, arr3 wa wb wc] w fun e w' => e = .returned (.int .i64 (madeE 23 v a b c n wa wb)) ∧ Below w.heap.size w w' := by
  obtain ⟨hv, hr, hok, hn, _⟩ := fit_zero hfit
  obtain ⟨ba, bb, bc⟩ := rng_bd hr
  have hr1 : 1 ≤ wa := by
    simp [rngOk, takes, btw] at hr
    omega
  have h0 := isW_iff.1 ha
  have h1 := isW_iff.1 hb
  have ta := (two_bd ba).2
  have tb := (two_bd bb).2
  have g0 : 0 ≤ a ∧ a < 256 := by omega
  have g1 : 0 ≤ b ∧ b < 256 := by omega
  simp only [okOf] at hok
  have hle : wa ≤ v := by simpa using hok
  have tv := two_bd (v := v) (by omega)
  have q1 := sgn_bd a wa h0.1 h0.2
  have q2 := two_mono wa v (by omega) hle
  have hvz : ¬ two v = 0 := by omega
  have B1 : Hid _ := h0.2
  have B2 : Hid _ := h1.2
  clear hfit hr hok hn ha hb
  go_enter Try.func44, Try.ntmps44
  go_wp2_with (first | (go_at_call 23; refine (two_any _ (by omega) (by omega) _).mono ?_; rintro e w' ⟨rfl, rfl⟩) | (go_at_call 66; refine (signedR_any a wa (by omega) (by omega) B1.out _).mono ?_; rintro e w' ⟨rfl, rfl⟩))
  go_ret
  exact ⟨rfl, by repeat (first | exact Below.refl _ _ | refine bal ?_ _)⟩

end Go.Proofs.Ytfobcnhibhbbaaa
