/- The plain text's Made, where all is right. -/
import Derived.Test.YtfobcnhibhbbaaaRb
import Derived.Test.YtfobcnhibhbbaaaXaM
namespace Go.Proofs.Ytfobcnhibhbbaaa
open Go.RowKit
set_option maxRecDepth 100000

theorem two_mono (i j : Int) (h0 : 0 ≤ i) (h : i ≤ j) : two i ≤ two j := by
  obtain ⟨x, rfl⟩ := Int.eq_ofNat_of_zero_le h0
  obtain ⟨y, rfl⟩ := Int.eq_ofNat_of_zero_le (show 0 ≤ j from by omega)
  exact two_le x y (by omega)

theorem sgn_bd (a v : Int) (ha : 0 ≤ a) (ha2 : a < two v) : - two v ≤ sgn a v ∧ sgn a v < two v := by
  unfold sgn
  split <;> omega

theorem bw_val (f : Nat → Nat → Nat) (h : ∀ v a b, f a b / 2 ^ v % 2 = f (a / 2 ^ v % 2) (b / 2 ^ v % 2)) (v a b : Nat) (hl : f a b < 2 ^ v) : bwN f v a b = f a b := by
  rw [bw_is f h, Nat.mod_eq_of_lt hl]

set_option maxRecDepth 100000 in
set_option maxHeartbeats 2000000 in
theorem made_4 (v a b c n wa wb wc : Int) (hfit : fitE 4 v n wa wb wc = 0) (ha : isW a wa = true) (hb : isW b wb = true) (w : World) :
    Calls Try.prog 44 #[.int .i64 4, .int .i64 v, .int .i64 a, .int .i64 b, .int .i64 c, .int .i64 n, arr3 wa wb wc] w fun e w' => e = .returned (.int .i64 (madeE 4 v a b c n wa wb)) ∧ Below w.heap.size w w' := by
  obtain ⟨hv, hr, hok, hn, _⟩ := fit_zero hfit
  obtain ⟨ba, bb, bc⟩ := rng_bd hr
  have hr1 : 1 ≤ wa := by
    simp [rngOk, takes, btw] at hr
    omega
  have h0 := isW_iff.1 ha
  have h1 := isW_iff.1 hb
  have ta := (two_bd ba).2
  have tb := (two_bd bb).2
  have g0 : 0 ≤ a ∧ a < 256 := by omega
  have g1 : 0 ≤ b ∧ b < 256 := by omega
  simp only [okOf] at hok
  obtain rfl : wa = v := by simpa using hok
  have tv := two_bd (v := wa) (by omega)
  have hvz : ¬ two wa = 0 := by omega
  have B1 : Hid _ := h0.2
  have B2 : Hid _ := h1.2
  clear hfit hr hok hn ha hb
  go_enter Try.func44, Try.ntmps44
  go_wp2_with (first | (go_at_call 23; refine (two_any _ (by omega) (by omega) _).mono ?_; rintro e w' ⟨rfl, rfl⟩))
  go_ret
  exact ⟨rfl, by repeat (first | exact Below.refl _ _ | refine bal ?_ _)⟩

set_option maxRecDepth 100000 in
set_option maxHeartbeats 2000000 in
theorem made_5 (v a b c n wa wb wc : Int) (hfit : fitE 5 v n wa wb wc = 0) (ha : isW a wa = true) (hb : isW b wb = true) (w : World) :
    Calls Try.prog 44 #[.int .i64 5, .int .i64 v, .int .i64 a, .int .i64 b, .int .i64 c, .int .i64 n, arr3 wa wb wc] w fun e w' => e = .returned (.int .i64 (madeE 5 v a b c n wa wb)) ∧ Below w.heap.size w w' := by
  obtain ⟨hv, hr, hok, hn, _⟩ := fit_zero hfit
  obtain ⟨ba, bb, bc⟩ := rng_bd hr
  have hr1 : 1 ≤ wa := by
    simp [rngOk, takes, btw] at hr
    omega
  have h0 := isW_iff.1 ha
  have h1 := isW_iff.1 hb
  have ta := (two_bd ba).2
  have tb := (two_bd bb).2
  have g0 : 0 ≤ a ∧ a < 256 := by omega
  have g1 : 0 ≤ b ∧ b < 256 := by omega
  simp only [okOf] at hok
  obtain rfl : wa = v := by simpa using hok
  have tv := two_bd (v := wa) (by omega)
  have hvz : ¬ two wa = 0 := by omega
  have B1 : Hid _ := h0.2
  have B2 : Hid _ := h1.2
  clear hfit hr hok hn ha hb
  go_enter Try.func44, Try.ntmps44
  go_wp2_with (first | (go_at_call 23; refine (two_any _ (by omega) (by omega) _).mono ?_; rintro e w' ⟨rfl, rfl⟩))
  go_ret
  exact ⟨rfl, by repeat (first | exact Below.refl _ _ | refine bal ?_ _)⟩

set_option maxRecDepth 100000 in
set_option maxHeartbeats 2000000 in
theorem made_6 (v a b c n wa wb wc : Int) (hfit : fitE 6 v n wa wb wc = 0) (ha : isW a wa = true) (hb : isW b wb = true) (w : World) :
    Calls Try.prog 44 #[.int .i64 6, .int .i64 v, .int .i64 a, .int .i64 b, .int .i64 c, .int .i64 n, arr3 wa wb wc] w fun e w' => e = .returned (.int .i64 (madeE 6 v a b c n wa wb)) ∧ Below w.heap.size w w' := by
  obtain ⟨hv, hr, hok, hn, _⟩ := fit_zero hfit
  obtain ⟨ba, bb, bc⟩ := rng_bd hr
  have hr1 : 1 ≤ wa := by
    simp [rngOk, takes, btw] at hr
    omega
  have h0 := isW_iff.1 ha
  have h1 := isW_iff.1 hb
  have ta := (two_bd ba).2
  have tb := (two_bd bb).2
  have g0 : 0 ≤ a ∧ a < 256 := by omega
  have g1 : 0 ≤ b ∧ b < 256 := by omega
  simp only [okOf] at hok
  obtain ⟨rfl, rfl⟩ : wa = v ∧ wb = v := by simpa using hok
  have tv := two_bd (v := wb) (by omega)
  have hla := h0.2
  have hlb := h1.2
  have Hb : Hid (∀ w, Calls Try.prog 64 #[.int .i64 a, .int .i64 b, .int .i64 wb, .agg #[.int .i64 0, .int .i64 0, .int .i64 0, .int .i64 1]] w fun e w' => e = .returned (.int .i64 ((a.toNat &&& b.toNat : Nat) : Int)) ∧ Below w.heap.size w w') := by
    intro w
    have hz : bwN (fun x y => x &&& y) wb.toNat a.toNat b.toNat = a.toNat &&& b.toNat := bw_val (fun x y => x &&& y) and_bits _ _ _ (Nat.and_lt_two_pow _ (by rw [two_nat] at hlb; omega))
    have := bitwise_and wb.toNat a.toNat b.toNat a b (show a = (a.toNat : Int) from by omega) (show b = (b.toNat : Int) from by omega) (by omega) (by omega) (by omega) w
    rw [hz, show ((wb.toNat : Nat) : Int) = wb from by omega] at this
    exact this
  clear hla hlb
  have hvz : ¬ two wb = 0 := by omega
  have B1 : Hid _ := h0.2
  have B2 : Hid _ := h1.2
  clear hfit hr hok hn ha hb
  go_enter Try.func44, Try.ntmps44
  go_wp2_with (first | (go_at_call 23; refine (two_any _ (by omega) (by omega) _).mono ?_; rintro e w' ⟨rfl, rfl⟩) | (go_at_call 64; refine (Hb.out _).mono ?_; rintro e w2 ⟨rfl, hb2⟩))
  go_ret
  exact ⟨rfl, bthen (bal (Below.refl _ _) _) hb2⟩

set_option maxRecDepth 100000 in
set_option maxHeartbeats 2000000 in
theorem made_7 (v a b c n wa wb wc : Int) (hfit : fitE 7 v n wa wb wc = 0) (ha : isW a wa = true) (hb : isW b wb = true) (w : World) :
    Calls Try.prog 44 #[.int .i64 7, .int .i64 v, .int .i64 a, .int .i64 b, .int .i64 c, .int .i64 n, arr3 wa wb wc] w fun e w' => e = .returned (.int .i64 (madeE 7 v a b c n wa wb)) ∧ Below w.heap.size w w' := by
  obtain ⟨hv, hr, hok, hn, _⟩ := fit_zero hfit
  obtain ⟨ba, bb, bc⟩ := rng_bd hr
  have hr1 : 1 ≤ wa := by
    simp [rngOk, takes, btw] at hr
    omega
  have h0 := isW_iff.1 ha
  have h1 := isW_iff.1 hb
  have ta := (two_bd ba).2
  have tb := (two_bd bb).2
  have g0 : 0 ≤ a ∧ a < 256 := by omega
  have g1 : 0 ≤ b ∧ b < 256 := by omega
  simp only [okOf] at hok
  obtain ⟨rfl, rfl⟩ : wa = v ∧ wb = v := by simpa using hok
  have tv := two_bd (v := wb) (by omega)
  have hla := h0.2
  have hlb := h1.2
  have Hb : Hid (∀ w, Calls Try.prog 64 #[.int .i64 a, .int .i64 b, .int .i64 wb, .agg #[.int .i64 0, .int .i64 1, .int .i64 1, .int .i64 1]] w fun e w' => e = .returned (.int .i64 ((a.toNat ||| b.toNat : Nat) : Int)) ∧ Below w.heap.size w w') := by
    intro w
    have hz : bwN (fun x y => x ||| y) wb.toNat a.toNat b.toNat = a.toNat ||| b.toNat := bw_val (fun x y => x ||| y) or_bits _ _ _ (Nat.or_lt_two_pow (by rw [two_nat] at hla; omega) (by rw [two_nat] at hlb; omega))
    have := bitwise_or wb.toNat a.toNat b.toNat a b (show a = (a.toNat : Int) from by omega) (show b = (b.toNat : Int) from by omega) (by omega) (by omega) (by omega) w
    rw [hz, show ((wb.toNat : Nat) : Int) = wb from by omega] at this
    exact this
  clear hla hlb
  have hvz : ¬ two wb = 0 := by omega
  have B1 : Hid _ := h0.2
  have B2 : Hid _ := h1.2
  clear hfit hr hok hn ha hb
  go_enter Try.func44, Try.ntmps44
  go_wp2_with (first | (go_at_call 23; refine (two_any _ (by omega) (by omega) _).mono ?_; rintro e w' ⟨rfl, rfl⟩) | (go_at_call 64; refine (Hb.out _).mono ?_; rintro e w2 ⟨rfl, hb2⟩))
  go_ret
  exact ⟨rfl, bthen (bal (Below.refl _ _) _) hb2⟩

set_option maxRecDepth 100000 in
set_option maxHeartbeats 2000000 in
theorem made_8 (v a b c n wa wb wc : Int) (hfit : fitE 8 v n wa wb wc = 0) (ha : isW a wa = true) (hb : isW b wb = true) (w : World) :
    Calls Try.prog 44 #[.int .i64 8, .int .i64 v, .int .i64 a, .int .i64 b, .int .i64 c, .int .i64 n, arr3 wa wb wc] w fun e w' => e = .returned (.int .i64 (madeE 8 v a b c n wa wb)) ∧ Below w.heap.size w w' := by
  obtain ⟨hv, hr, hok, hn, _⟩ := fit_zero hfit
  obtain ⟨ba, bb, bc⟩ := rng_bd hr
  have hr1 : 1 ≤ wa := by
    simp [rngOk, takes, btw] at hr
    omega
  have h0 := isW_iff.1 ha
  have h1 := isW_iff.1 hb
  have ta := (two_bd ba).2
  have tb := (two_bd bb).2
  have g0 : 0 ≤ a ∧ a < 256 := by omega
  have g1 : 0 ≤ b ∧ b < 256 := by omega
  simp only [okOf] at hok
  obtain ⟨rfl, rfl⟩ : wa = v ∧ wb = v := by simpa using hok
  have tv := two_bd (v := wb) (by omega)
  have hla := h0.2
  have hlb := h1.2
  have Hb : Hid (∀ w, Calls Try.prog 64 #[.int .i64 a, .int .i64 b, .int .i64 wb, .agg #[.int .i64 0, .int .i64 1, .int .i64 1, .int .i64 0]] w fun e w' => e = .returned (.int .i64 ((a.toNat ^^^ b.toNat : Nat) : Int)) ∧ Below w.heap.size w w') := by
    intro w
    have hz : bwN (fun x y => x ^^^ y) wb.toNat a.toNat b.toNat = a.toNat ^^^ b.toNat := bw_val (fun x y => x ^^^ y) xor_bits _ _ _ (Nat.xor_lt_two_pow (by rw [two_nat] at hla; omega) (by rw [two_nat] at hlb; omega))
    have := bitwise_xor wb.toNat a.toNat b.toNat a b (show a = (a.toNat : Int) from by omega) (show b = (b.toNat : Int) from by omega) (by omega) (by omega) (by omega) w
    rw [hz, show ((wb.toNat : Nat) : Int) = wb from by omega] at this
    exact this
  clear hla hlb
  have hvz : ¬ two wb = 0 := by omega
  have B1 : Hid _ := h0.2
  have B2 : Hid _ := h1.2
  clear hfit hr hok hn ha hb
  go_enter Try.func44, Try.ntmps44
  go_wp2_with (first | (go_at_call 23; refine (two_any _ (by omega) (by omega) _).mono ?_; rintro e w' ⟨rfl, rfl⟩) | (go_at_call 64; refine (Hb.out _).mono ?_; rintro e w2 ⟨rfl, hb2⟩))
  go_ret
  exact ⟨rfl, bthen (bal (Below.refl _ _) _) hb2⟩

set_option maxRecDepth 100000 in
set_option maxHeartbeats 2000000 in
theorem made_9 (v a b c n wa wb wc : Int) (hfit : fitE 9 v n wa wb wc = 0) (ha : isW a wa = true) (hb : isW b wb = true) (w : World) :
    Calls Try.prog 44 #[.int .i64 9, .int .i64 v, .int .i64 a, .int .i64 b, .int .i64 c, .int .i64 n, arr3 wa wb wc] w fun e w' => e = .returned (.int .i64 (madeE 9 v a b c n wa wb)) ∧ Below w.heap.size w w' := by
  obtain ⟨hv, hr, hok, hn, _⟩ := fit_zero hfit
  obtain ⟨ba, bb, bc⟩ := rng_bd hr
  have hr1 : 1 ≤ wa := by
    simp [rngOk, takes, btw] at hr
    omega
  have h0 := isW_iff.1 ha
  have h1 := isW_iff.1 hb
  have ta := (two_bd ba).2
  have tb := (two_bd bb).2
  have g0 : 0 ≤ a ∧ a < 256 := by omega
  have g1 : 0 ≤ b ∧ b < 256 := by omega
  simp only [okOf] at hok
  obtain ⟨rfl, rfl⟩ : wa = v ∧ wb = v := by simpa using hok
  have tv := two_bd (v := wb) (by omega)
  have hvz : ¬ two wb = 0 := by omega
  have B1 : Hid _ := h0.2
  have B2 : Hid _ := h1.2
  clear hfit hr hok hn ha hb
  go_enter Try.func44, Try.ntmps44
  go_wp2_with (first | (go_at_call 23; refine (two_any _ (by omega) (by omega) _).mono ?_; rintro e w' ⟨rfl, rfl⟩))
  go_ret
  exact ⟨rfl, by repeat (first | exact Below.refl _ _ | refine bal ?_ _)⟩

set_option maxRecDepth 100000 in
set_option maxHeartbeats 2000000 in
theorem made_10 (v a b c n wa wb wc : Int) (hfit : fitE 10 v n wa wb wc = 0) (ha : isW a wa = true) (hb : isW b wb = true) (w : World) :
    Calls Try.prog 44 #[.int .i64 10, .int .i64 v, .int .i64 a, .int .i64 b, .int .i64 c, .int .i64 n, arr3 wa wb wc] w fun e w' => e = .returned (.int .i64 (madeE 10 v a b c n wa wb)) ∧ Below w.heap.size w w' := by
  obtain ⟨hv, hr, hok, hn, _⟩ := fit_zero hfit
  obtain ⟨ba, bb, bc⟩ := rng_bd hr
  have hr1 : 1 ≤ wa := by
    simp [rngOk, takes, btw] at hr
    omega
  have h0 := isW_iff.1 ha
  have h1 := isW_iff.1 hb
  have ta := (two_bd ba).2
  have tb := (two_bd bb).2
  have g0 : 0 ≤ a ∧ a < 256 := by omega
  have g1 : 0 ≤ b ∧ b < 256 := by omega
  simp only [okOf] at hok
  obtain ⟨rfl, rfl⟩ : wa = v ∧ wb = v := by simpa using hok
  have tv := two_bd (v := wb) (by omega)
  have hvz : ¬ two wb = 0 := by omega
  have B1 : Hid _ := h0.2
  have B2 : Hid _ := h1.2
  clear hfit hr hok hn ha hb
  go_enter Try.func44, Try.ntmps44
  go_wp2_with (first | (go_at_call 23; refine (two_any _ (by omega) (by omega) _).mono ?_; rintro e w' ⟨rfl, rfl⟩))
  go_ret
  exact ⟨rfl, by repeat (first | exact Below.refl _ _ | refine bal ?_ _)⟩

set_option maxRecDepth 100000 in
set_option maxHeartbeats 2000000 in
theorem made_11 (v a b c n wa wb wc : Int) (hfit : fitE 11 v n wa wb wc = 0) (ha : isW a wa = true) (hb : isW b wb = true) (w : World) :
    Calls Try.prog 44 #[.int .i64 11, .int .i64 v, .int .i64 a, .int .i64 b, .int .i64 c, .int .i64 n, arr3 wa wb wc] w fun e w' => e = .returned (.int .i64 (madeE 11 v a b c n wa wb)) ∧ Below w.heap.size w w' := by
  obtain ⟨hv, hr, hok, hn, _⟩ := fit_zero hfit
  obtain ⟨ba, bb, bc⟩ := rng_bd hr
  have hr1 : 1 ≤ wa := by
    simp [rngOk, takes, btw] at hr
    omega
  have h0 := isW_iff.1 ha
  have h1 := isW_iff.1 hb
  have ta := (two_bd ba).2
  have tb := (two_bd bb).2
  have g0 : 0 ≤ a ∧ a < 256 := by omega
  have g1 : 0 ≤ b ∧ b < 256 := by omega
  simp only [okOf] at hok
  obtain ⟨rfl, rfl⟩ : wa = v ∧ wb = v := by simpa using hok
  have tv := two_bd (v := wb) (by omega)
  have q1 : 0 ≤ a * b := Int.mul_nonneg (by omega) (by omega)
  have q2 : a * b ≤ 256 * 256 := Int.mul_le_mul (by omega) (by omega) (by omega) (by omega)
  have hvz : ¬ two wb = 0 := by omega
  have B1 : Hid _ := h0.2
  have B2 : Hid _ := h1.2
  clear hfit hr hok hn ha hb
  go_enter Try.func44, Try.ntmps44
  go_wp2_with (first | (go_at_call 23; refine (two_any _ (by omega) (by omega) _).mono ?_; rintro e w' ⟨rfl, rfl⟩))
  go_ret
  exact ⟨rfl, by repeat (first | exact Below.refl _ _ | refine bal ?_ _)⟩

set_option maxRecDepth 100000 in
set_option maxHeartbeats 2000000 in
theorem made_12 (v a b c n wa wb wc : Int) (hfit : fitE 12 v n wa wb wc = 0) (ha : isW a wa = true) (hb : isW b wb = true) (w : World) :
    Calls Try.prog 44 #[.int .i64 12, .int .i64 v, .int .i64 a, .int .i64 b, .int .i64 c, .int .i64 n, arr3 wa wb wc] w fun e w' => e = .returned (.int .i64 (madeE 12 v a b c n wa wb)) ∧ Below w.heap.size w w' := by
  obtain ⟨hv, hr, hok, hn, _⟩ := fit_zero hfit
  obtain ⟨ba, bb, bc⟩ := rng_bd hr
  have hr1 : 1 ≤ wa := by
    simp [rngOk, takes, btw] at hr
    omega
  have h0 := isW_iff.1 ha
  have h1 := isW_iff.1 hb
  have ta := (two_bd ba).2
  have tb := (two_bd bb).2
  have g0 : 0 ≤ a ∧ a < 256 := by omega
  have g1 : 0 ≤ b ∧ b < 256 := by omega
  simp only [okOf] at hok
  obtain ⟨rfl, rfl⟩ : wa = v ∧ wb = v := by simpa using hok
  have tv := two_bd (v := wb) (by omega)
  have hvz : ¬ two wb = 0 := by omega
  have B1 : Hid _ := h0.2
  have B2 : Hid _ := h1.2
  clear hfit hr hok hn ha hb
  by_cases hz : b = 0
  · have Hm : Hid (madeE 12 wb a b c n wb wb = two wb - 1) := by show (if b = 0 then two wb - 1 else a / b) = _; rw [if_pos hz]
    have hb0 : (b == 0) = true := by simp [hz]
    clear hz
    go_enter Try.func44, Try.ntmps44
    go_wp2_with (first | (go_at_call 23; refine (two_any _ (by omega) (by omega) _).mono ?_; rintro e w' ⟨rfl, rfl⟩))
    go_ret
    exact ⟨ret_int Hm.out.symm, by repeat (first | exact Below.refl _ _ | refine bal ?_ _)⟩
  · have Hm : Hid (madeE 12 wb a b c n wb wb = a / b) := by show (if b = 0 then two wb - 1 else a / b) = _; rw [if_neg hz]
    have hb0 : (b == 0) = false := by simp [hz]
    go_enter Try.func44, Try.ntmps44
    go_wp2_with (first | (go_at_call 23; refine (two_any _ (by omega) (by omega) _).mono ?_; rintro e w' ⟨rfl, rfl⟩))
    go_ret
    exact ⟨ret_int Hm.out.symm, by repeat (first | exact Below.refl _ _ | refine bal ?_ _)⟩

set_option maxRecDepth 100000 in
set_option maxHeartbeats 2000000 in
theorem made_13 (v a b c n wa wb wc : Int) (hfit : fitE 13 v n wa wb wc = 0) (ha : isW a wa = true) (hb : isW b wb = true) (w : World) :
    Calls Try.prog 44 #[.int .i64 13, .int .i64 v, .int .i64 a, .int .i64 b, .int .i64 c, .int .i64 n, arr3 wa wb wc] w fun e w' => e = .returned (.int .i64 (madeE 13 v a b c n wa wb)) ∧ Below w.heap.size w w' := by
  obtain ⟨hv, hr, hok, hn, _⟩ := fit_zero hfit
  obtain ⟨ba, bb, bc⟩ := rng_bd hr
  have hr1 : 1 ≤ wa := by
    simp [rngOk, takes, btw] at hr
    omega
  have h0 := isW_iff.1 ha
  have h1 := isW_iff.1 hb
  have ta := (two_bd ba).2
  have tb := (two_bd bb).2
  have g0 : 0 ≤ a ∧ a < 256 := by omega
  have g1 : 0 ≤ b ∧ b < 256 := by omega
  simp only [okOf] at hok
  obtain ⟨rfl, rfl⟩ : wa = v ∧ wb = v := by simpa using hok
  have tv := two_bd (v := wb) (by omega)
  have hvz : ¬ two wb = 0 := by omega
  have B1 : Hid _ := h0.2
  have B2 : Hid _ := h1.2
  clear hfit hr hok hn ha hb
  by_cases hz : b = 0
  · have Hm : Hid (madeE 13 wb a b c n wb wb = a) := by show (if b = 0 then a else a % b) = _; rw [if_pos hz]
    have hb0 : (b == 0) = true := by simp [hz]
    clear hz
    go_enter Try.func44, Try.ntmps44
    go_wp2_with (first | (go_at_call 23; refine (two_any _ (by omega) (by omega) _).mono ?_; rintro e w' ⟨rfl, rfl⟩))
    go_ret
    exact ⟨ret_int Hm.out.symm, by repeat (first | exact Below.refl _ _ | refine bal ?_ _)⟩
  · have Hm : Hid (madeE 13 wb a b c n wb wb = a % b) := by show (if b = 0 then a else a % b) = _; rw [if_neg hz]
    have hb0 : (b == 0) = false := by simp [hz]
    go_enter Try.func44, Try.ntmps44
    go_wp2_with (first | (go_at_call 23; refine (two_any _ (by omega) (by omega) _).mono ?_; rintro e w' ⟨rfl, rfl⟩))
    go_ret
    exact ⟨ret_int Hm.out.symm, by repeat (first | exact Below.refl _ _ | refine bal ?_ _)⟩

end Go.Proofs.Ytfobcnhibhbbaaa
