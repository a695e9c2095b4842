/- Apply, where all is right: what an operation makes. -/
import Derived.Test.YtjhkecnnhddhbaaGreatDoorVcM
namespace Go.Proofs.YtjhkecnnhddhbaaGreatDoor.Ev
open Go.RowKit
set_option maxRecDepth 100000
theorem bcell {W w1 : World} (hb : Below W.heap.size W w1) (b o : Nat) (h : b < W.heap.size) : w1.cell? ⟨b, o, none⟩ = W.cell? ⟨b, o, none⟩ := hb.cell (p := ⟨b, o, none⟩) h
theorem box3 {w w1 : World} {a b c : Int} (hb : Below (w.alloc (.cells #[.int .i64 a, .int .i64 b, .int .i64 c] 164)).heap.size (w.alloc (.cells #[.int .i64 a, .int .i64 b, .int .i64 c] 164)) w1) :
   w1.cell? ⟨w.heap.size, 0, none⟩ = some (.int .i64 a) ∧ w1.cell? ⟨w.heap.size, 1, none⟩ = some (.int .i64 b) ∧ w1.cell? ⟨w.heap.size, 2, none⟩ = some (.int .i64 c) ∧ Below w.heap.size w w1 := by
 refine ⟨?_, ?_, ?_, ((Below.refl _ _).alloc (Nat.le_refl _) _).trans (hb.mono (by simp))⟩
 all_goals
   rw [bcell hb _ _ (by simp)]
   simp [go_sem]
theorem join_or (a b : Int) (wa wb : Int) (hw : wa + wb ≤ 8) (ha0 : 0 ≤ wa) (hb0 : 0 ≤ wb) (h0 : 0 ≤ a) (h1 : a < two wa) (g0 : 0 ≤ b) (g1 : b < two wb) :
   a * two wb < 256 ∧ (((a * two wb).toNat ||| b.toNat : Nat) : Int) = a * two wb + b := by
 obtain ⟨i, rfl⟩ := Int.eq_ofNat_of_zero_le ha0
 obtain ⟨j, rfl⟩ := Int.eq_ofNat_of_zero_le hb0
 obtain ⟨x, rfl⟩ := Int.eq_ofNat_of_zero_le h0
 obtain ⟨y, rfl⟩ := Int.eq_ofNat_of_zero_le g0
 rw [two_nat] at *
 simp only [Int.toNat_natCast] at *
 have hx : x < 2 ^ i := by omega
 have hy : y < 2 ^ j := by omega
 have hm : x * 2 ^ j < 2 ^ i * 2 ^ j := Nat.mul_lt_mul_of_pos_right hx (Nat.two_pow_pos j)
 rw [← Nat.pow_add] at hm
 have hp : 2 ^ (i + j) ≤ 2 ^ 8 := Nat.pow_le_pow_right (by omega) (by omega)
 have e : ((x : Int) * ((2 ^ j : Nat) : Int)) = ((x * 2 ^ j : Nat) : Int) := by simp
 rw [e, Int.toNat_natCast]
 refine ⟨by omega, ?_⟩
 rw [nat_join j (x * 2 ^ j) y (Nat.mul_mod_left _ _) hy]
 omega
theorem ret2 {a b d : Int} (h : a = b) : Ending.returned (.tuple #[.int .i64 a, .int .i64 d]) = .returned (.tuple #[.int .i64 b, .int .i64 d]) := by rw [h]
set_option maxRecDepth 100000 in
set_option maxHeartbeats 2000000 in
theorem apply_4 (v a b c n wa wb wc : Int) (hfit : fitE 4 v n wa wb wc = 0) (ha : isW a wa = true) (hb : isW b wb = true) (hc : isW c wc = true) (w : World) :
   Calls Tryz.prog 185 #[.int .i64 4, .int .i64 v, .int .i64 a, .int .i64 b, .int .i64 c, .int .i64 n, arr3 wa wb wc] w fun e w' => e = .returned (.tuple #[.int .i64 (madeE 4 v a b c n wa wb), .int .i64 0]) ∧ Below w.heap.size w w' := by
 obtain ⟨hv, hr, hok, hn, _⟩ := fit_zero hfit
 obtain ⟨ba, bb, bc⟩ := rng_bd hr
 have hr1 : 1 ≤ wa := by
   simp [rngOk, takes, btw] at hr
   omega
 have h0 := isW_iff.1 ha
 have h1 := isW_iff.1 hb
 have ta := (two_bd ba).2
 have tb := (two_bd bb).2
 have g0 : 0 ≤ a ∧ a < 256 := by omega
 have g1 : 0 ≤ b ∧ b < 256 := by omega
 simp only [okOf] at hok
 obtain rfl : wa = v := by simpa using hok
 have B1 : Hid _ := h0.2
 have B2 : Hid _ := h1.2
 have Hsh : Hid (∀ w, Calls Tryz.prog 161 #[.int .i64 4] w fun e w' => e = .returned (.int .i64 1) ∧ w' = w) := shapeOf_any 4
 have Hfit : Hid _ := hfit
 clear hfit hr hok hn h0 h1 ta tb
 have i0 : ∀ w : World, (Instr.index 164 (arr3 a b c) (.int .i64 0)).run Tryz.prog w = .ok (.int .i64 a) w := fun _ => by kernel_rfl
 have i1 : ∀ w : World, (Instr.index 164 (arr3 a b c) (.int .i64 1)).run Tryz.prog w = .ok (.int .i64 b) w := fun _ => by kernel_rfl
 have i2 : ∀ w : World, (Instr.index 164 (arr3 a b c) (.int .i64 2)).run Tryz.prog w = .ok (.int .i64 c) w := fun _ => by kernel_rfl
 go_enter Tryz.func185, Tryz.ntmps185
 go_wp2_with fail
 refine (fit_any _ _ _ _ _ _ _).mono ?_
 rintro e w1 ⟨rfl, hb1⟩
 rw [Hfit.out]
 obtain ⟨c0, c1, c2, hbw⟩ := box3 hb1
 clear hb1
 go_wp2_with (first | (go_at_call 133; refine (isWord_any _ _ (by omega) _).mono ?_; rintro e w' ⟨rfl, rfl⟩) | (go_at_call 161; refine (Hsh.out _).mono ?_; rintro e w' ⟨rfl, rfl⟩) | (go_at_call 210; refine (calc_4 _ _ _ (by omega) (by omega) _).mono ?_; rintro e w' ⟨rfl, rfl⟩) | (go_at_call 208; refine (within_any _ _ (by omega) _).mono ?_; rintro e w' ⟨rfl, rfl⟩))
 refine wp_loop_rounds 4 ?_
 rw [rounds_succ]
 go_wp2_with (first | (go_at_call 133; refine (isWord_any _ _ (by omega) _).mono ?_; rintro e w' ⟨rfl, rfl⟩) | (go_at_call 161; refine (Hsh.out _).mono ?_; rintro e w' ⟨rfl, rfl⟩) | (go_at_call 210; refine (calc_4 _ _ _ (by omega) (by omega) _).mono ?_; rintro e w' ⟨rfl, rfl⟩) | (go_at_call 208; refine (within_any _ _ (by omega) _).mono ?_; rintro e w' ⟨rfl, rfl⟩))
 rw [rounds_succ]
 go_wp2_with (first | (go_at_call 133; refine (isWord_any _ _ (by omega) _).mono ?_; rintro e w' ⟨rfl, rfl⟩) | (go_at_call 161; refine (Hsh.out _).mono ?_; rintro e w' ⟨rfl, rfl⟩) | (go_at_call 210; refine (calc_4 _ _ _ (by omega) (by omega) _).mono ?_; rintro e w' ⟨rfl, rfl⟩) | (go_at_call 208; refine (within_any _ _ (by omega) _).mono ?_; rintro e w' ⟨rfl, rfl⟩))
 rw [rounds_succ]
 go_wp2_with (first | (go_at_call 133; refine (isWord_any _ _ (by omega) _).mono ?_; rintro e w' ⟨rfl, rfl⟩) | (go_at_call 161; refine (Hsh.out _).mono ?_; rintro e w' ⟨rfl, rfl⟩) | (go_at_call 210; refine (calc_4 _ _ _ (by omega) (by omega) _).mono ?_; rintro e w' ⟨rfl, rfl⟩) | (go_at_call 208; refine (within_any _ _ (by omega) _).mono ?_; rintro e w' ⟨rfl, rfl⟩))
 rw [rounds_succ]
 go_wp2_with (first | (go_at_call 133; refine (isWord_any _ _ (by omega) _).mono ?_; rintro e w' ⟨rfl, rfl⟩) | (go_at_call 161; refine (Hsh.out _).mono ?_; rintro e w' ⟨rfl, rfl⟩) | (go_at_call 210; refine (calc_4 _ _ _ (by omega) (by omega) _).mono ?_; rintro e w' ⟨rfl, rfl⟩) | (go_at_call 208; refine (within_any _ _ (by omega) _).mono ?_; rintro e w' ⟨rfl, rfl⟩))
 go_ret2
 exact ⟨ret2 (m4 _ _ _ _ _ _ _ (by omega) B1.out), by repeat (first | exact hbw | refine bal ?_ _)⟩
set_option maxRecDepth 100000 in
set_option maxHeartbeats 2000000 in
theorem apply_5 (v a b c n wa wb wc : Int) (hfit : fitE 5 v n wa wb wc = 0) (ha : isW a wa = true) (hb : isW b wb = true) (hc : isW c wc = true) (w : World) :
   Calls Tryz.prog 185 #[.int .i64 5, .int .i64 v, .int .i64 a, .int .i64 b, .int .i64 c, .int .i64 n, arr3 wa wb wc] w fun e w' => e = .returned (.tuple #[.int .i64 (madeE 5 v a b c n wa wb), .int .i64 0]) ∧ Below w.heap.size w w' := by
 obtain ⟨hv, hr, hok, hn, _⟩ := fit_zero hfit
 obtain ⟨ba, bb, bc⟩ := rng_bd hr
 have hr1 : 1 ≤ wa := by
   simp [rngOk, takes, btw] at hr
   omega
 have h0 := isW_iff.1 ha
 have h1 := isW_iff.1 hb
 have ta := (two_bd ba).2
 have tb := (two_bd bb).2
 have g0 : 0 ≤ a ∧ a < 256 := by omega
 have g1 : 0 ≤ b ∧ b < 256 := by omega
 simp only [okOf] at hok
 obtain rfl : wa = v := by simpa using hok
 have B1 : Hid _ := h0.2
 have B2 : Hid _ := h1.2
 have Hsh : Hid (∀ w, Calls Tryz.prog 161 #[.int .i64 5] w fun e w' => e = .returned (.int .i64 1) ∧ w' = w) := shapeOf_any 5
 have Hfit : Hid _ := hfit
 clear hfit hr hok hn h0 h1 ta tb
 have i0 : ∀ w : World, (Instr.index 164 (arr3 a b c) (.int .i64 0)).run Tryz.prog w = .ok (.int .i64 a) w := fun _ => by kernel_rfl
 have i1 : ∀ w : World, (Instr.index 164 (arr3 a b c) (.int .i64 1)).run Tryz.prog w = .ok (.int .i64 b) w := fun _ => by kernel_rfl
 have i2 : ∀ w : World, (Instr.index 164 (arr3 a b c) (.int .i64 2)).run Tryz.prog w = .ok (.int .i64 c) w := fun _ => by kernel_rfl
 go_enter Tryz.func185, Tryz.ntmps185
 go_wp2_with fail
 refine (fit_any _ _ _ _ _ _ _).mono ?_
 rintro e w1 ⟨rfl, hb1⟩
 rw [Hfit.out]
 obtain ⟨c0, c1, c2, hbw⟩ := box3 hb1
 clear hb1
 go_wp2_with (first | (go_at_call 133; refine (isWord_any _ _ (by omega) _).mono ?_; rintro e w' ⟨rfl, rfl⟩) | (go_at_call 161; refine (Hsh.out _).mono ?_; rintro e w' ⟨rfl, rfl⟩) | (go_at_call 210; refine (calc_5 _ _ _ (by omega) (by omega) _).mono ?_; rintro e w' ⟨rfl, rfl⟩) | (go_at_call 208; refine (within_any _ _ (by omega) _).mono ?_; rintro e w' ⟨rfl, rfl⟩))
 refine wp_loop_rounds 4 ?_
 rw [rounds_succ]
 go_wp2_with (first | (go_at_call 133; refine (isWord_any _ _ (by omega) _).mono ?_; rintro e w' ⟨rfl, rfl⟩) | (go_at_call 161; refine (Hsh.out _).mono ?_; rintro e w' ⟨rfl, rfl⟩) | (go_at_call 210; refine (calc_5 _ _ _ (by omega) (by omega) _).mono ?_; rintro e w' ⟨rfl, rfl⟩) | (go_at_call 208; refine (within_any _ _ (by omega) _).mono ?_; rintro e w' ⟨rfl, rfl⟩))
 rw [rounds_succ]
 go_wp2_with (first | (go_at_call 133; refine (isWord_any _ _ (by omega) _).mono ?_; rintro e w' ⟨rfl, rfl⟩) | (go_at_call 161; refine (Hsh.out _).mono ?_; rintro e w' ⟨rfl, rfl⟩) | (go_at_call 210; refine (calc_5 _ _ _ (by omega) (by omega) _).mono ?_; rintro e w' ⟨rfl, rfl⟩) | (go_at_call 208; refine (within_any _ _ (by omega) _).mono ?_; rintro e w' ⟨rfl, rfl⟩))
 rw [rounds_succ]
 go_wp2_with (first | (go_at_call 133; refine (isWord_any _ _ (by omega) _).mono ?_; rintro e w' ⟨rfl, rfl⟩) | (go_at_call 161; refine (Hsh.out _).mono ?_; rintro e w' ⟨rfl, rfl⟩) | (go_at_call 210; refine (calc_5 _ _ _ (by omega) (by omega) _).mono ?_; rintro e w' ⟨rfl, rfl⟩) | (go_at_call 208; refine (within_any _ _ (by omega) _).mono ?_; rintro e w' ⟨rfl, rfl⟩))
 rw [rounds_succ]
 go_wp2_with (first | (go_at_call 133; refine (isWord_any _ _ (by omega) _).mono ?_; rintro e w' ⟨rfl, rfl⟩) | (go_at_call 161; refine (Hsh.out _).mono ?_; rintro e w' ⟨rfl, rfl⟩) | (go_at_call 210; refine (calc_5 _ _ _ (by omega) (by omega) _).mono ?_; rintro e w' ⟨rfl, rfl⟩) | (go_at_call 208; refine (within_any _ _ (by omega) _).mono ?_; rintro e w' ⟨rfl, rfl⟩))
 go_ret2
 exact ⟨ret2 (m5 _ _ _ _ _ _ _), by repeat (first | exact hbw | refine bal ?_ _)⟩
set_option maxRecDepth 100000 in
set_option maxHeartbeats 2000000 in
theorem apply_6 (v a b c n wa wb wc : Int) (hfit : fitE 6 v n wa wb wc = 0) (ha : isW a wa = true) (hb : isW b wb = true) (hc : isW c wc = true) (w : World) :
   Calls Tryz.prog 185 #[.int .i64 6, .int .i64 v, .int .i64 a, .int .i64 b, .int .i64 c, .int .i64 n, arr3 wa wb wc] w fun e w' => e = .returned (.tuple #[.int .i64 (madeE 6 v a b c n wa wb), .int .i64 0]) ∧ Below w.heap.size w w' := by
 obtain ⟨hv, hr, hok, hn, _⟩ := fit_zero hfit
 obtain ⟨ba, bb, bc⟩ := rng_bd hr
 have hr1 : 1 ≤ wa := by
   simp [rngOk, takes, btw] at hr
   omega
 have h0 := isW_iff.1 ha
 have h1 := isW_iff.1 hb
 have ta := (two_bd ba).2
 have tb := (two_bd bb).2
 have g0 : 0 ≤ a ∧ a < 256 := by omega
 have g1 : 0 ≤ b ∧ b < 256 := by omega
 simp only [okOf] at hok
 obtain ⟨rfl, rfl⟩ : wa = v ∧ wb = v := by simpa using hok
 have B1 : Hid _ := h0.2
 have B2 : Hid _ := h1.2
 have Hsh : Hid (∀ w, Calls Tryz.prog 161 #[.int .i64 6] w fun e w' => e = .returned (.int .i64 2) ∧ w' = w) := shapeOf_any 6
 have Hfit : Hid _ := hfit
 clear hfit hr hok hn h0 h1 ta tb
 have i0 : ∀ w : World, (Instr.index 164 (arr3 a b c) (.int .i64 0)).run Tryz.prog w = .ok (.int .i64 a) w := fun _ => by kernel_rfl
 have i1 : ∀ w : World, (Instr.index 164 (arr3 a b c) (.int .i64 1)).run Tryz.prog w = .ok (.int .i64 b) w := fun _ => by kernel_rfl
 have i2 : ∀ w : World, (Instr.index 164 (arr3 a b c) (.int .i64 2)).run Tryz.prog w = .ok (.int .i64 c) w := fun _ => by kernel_rfl
 go_enter Tryz.func185, Tryz.ntmps185
 go_wp2_with fail
 refine (fit_any _ _ _ _ _ _ _).mono ?_
 rintro e w1 ⟨rfl, hb1⟩
 rw [Hfit.out]
 obtain ⟨c0, c1, c2, hbw⟩ := box3 hb1
 clear hb1
 go_wp2_with (first | (go_at_call 133; refine (isWord_any _ _ (by omega) _).mono ?_; rintro e w' ⟨rfl, rfl⟩) | (go_at_call 161; refine (Hsh.out _).mono ?_; rintro e w' ⟨rfl, rfl⟩) | (go_at_call 210; refine (calc_6 _ _ _ (by omega) (by omega) (by omega) (by omega) _).mono ?_; rintro e w' ⟨rfl, rfl⟩) | (go_at_call 208; refine (within_any _ _ (by omega) _).mono ?_; rintro e w' ⟨rfl, rfl⟩))
 refine wp_loop_rounds 4 ?_
 rw [rounds_succ]
 go_wp2_with (first | (go_at_call 133; refine (isWord_any _ _ (by omega) _).mono ?_; rintro e w' ⟨rfl, rfl⟩) | (go_at_call 161; refine (Hsh.out _).mono ?_; rintro e w' ⟨rfl, rfl⟩) | (go_at_call 210; refine (calc_6 _ _ _ (by omega) (by omega) (by omega) (by omega) _).mono ?_; rintro e w' ⟨rfl, rfl⟩) | (go_at_call 208; refine (within_any _ _ (by omega) _).mono ?_; rintro e w' ⟨rfl, rfl⟩))
 rw [rounds_succ]
 go_wp2_with (first | (go_at_call 133; refine (isWord_any _ _ (by omega) _).mono ?_; rintro e w' ⟨rfl, rfl⟩) | (go_at_call 161; refine (Hsh.out _).mono ?_; rintro e w' ⟨rfl, rfl⟩) | (go_at_call 210; refine (calc_6 _ _ _ (by omega) (by omega) (by omega) (by omega) _).mono ?_; rintro e w' ⟨rfl, rfl⟩) | (go_at_call 208; refine (within_any _ _ (by omega) _).mono ?_; rintro e w' ⟨rfl, rfl⟩))
 rw [rounds_succ]
 go_wp2_with (first | (go_at_call 133; refine (isWord_any _ _ (by omega) _).mono ?_; rintro e w' ⟨rfl, rfl⟩) | (go_at_call 161; refine (Hsh.out _).mono ?_; rintro e w' ⟨rfl, rfl⟩) | (go_at_call 210; refine (calc_6 _ _ _ (by omega) (by omega) (by omega) (by omega) _).mono ?_; rintro e w' ⟨rfl, rfl⟩) | (go_at_call 208; refine (within_any _ _ (by omega) _).mono ?_; rintro e w' ⟨rfl, rfl⟩))
 rw [rounds_succ]
 go_wp2_with (first | (go_at_call 133; refine (isWord_any _ _ (by omega) _).mono ?_; rintro e w' ⟨rfl, rfl⟩) | (go_at_call 161; refine (Hsh.out _).mono ?_; rintro e w' ⟨rfl, rfl⟩) | (go_at_call 210; refine (calc_6 _ _ _ (by omega) (by omega) (by omega) (by omega) _).mono ?_; rintro e w' ⟨rfl, rfl⟩) | (go_at_call 208; refine (within_any _ _ (by omega) _).mono ?_; rintro e w' ⟨rfl, rfl⟩))
 go_ret2
 exact ⟨ret2 (m6 _ _ _ _ _ _ _ (by omega) B2.out), by repeat (first | exact hbw | refine bal ?_ _)⟩
set_option maxRecDepth 100000 in
set_option maxHeartbeats 2000000 in
theorem apply_7 (v a b c n wa wb wc : Int) (hfit : fitE 7 v n wa wb wc = 0) (ha : isW a wa = true) (hb : isW b wb = true) (hc : isW c wc = true) (w : World) :
   Calls Tryz.prog 185 #[.int .i64 7, .int .i64 v, .int .i64 a, .int .i64 b, .int .i64 c, .int .i64 n, arr3 wa wb wc] w fun e w' => e = .returned (.tuple #[.int .i64 (madeE 7 v a b c n wa wb), .int .i64 0]) ∧ Below w.heap.size w w' := by
 obtain ⟨hv, hr, hok, hn, _⟩ := fit_zero hfit
 obtain ⟨ba, bb, bc⟩ := rng_bd hr
 have hr1 : 1 ≤ wa := by
   simp [rngOk, takes, btw] at hr
   omega
 have h0 := isW_iff.1 ha
 have h1 := isW_iff.1 hb
 have ta := (two_bd ba).2
 have tb := (two_bd bb).2
 have g0 : 0 ≤ a ∧ a < 256 := by omega
 have g1 : 0 ≤ b ∧ b < 256 := by omega
 simp only [okOf] at hok
 obtain ⟨rfl, rfl⟩ : wa = v ∧ wb = v := by simpa using hok
 have B1 : Hid _ := h0.2
 have B2 : Hid _ := h1.2
 have Hsh : Hid (∀ w, Calls Tryz.prog 161 #[.int .i64 7] w fun e w' => e = .returned (.int .i64 2) ∧ w' = w) := shapeOf_any 7
 have Hfit : Hid _ := hfit
 clear hfit hr hok hn h0 h1 ta tb
 have i0 : ∀ w : World, (Instr.index 164 (arr3 a b c) (.int .i64 0)).run Tryz.prog w = .ok (.int .i64 a) w := fun _ => by kernel_rfl
 have i1 : ∀ w : World, (Instr.index 164 (arr3 a b c) (.int .i64 1)).run Tryz.prog w = .ok (.int .i64 b) w := fun _ => by kernel_rfl
 have i2 : ∀ w : World, (Instr.index 164 (arr3 a b c) (.int .i64 2)).run Tryz.prog w = .ok (.int .i64 c) w := fun _ => by kernel_rfl
 go_enter Tryz.func185, Tryz.ntmps185
 go_wp2_with fail
 refine (fit_any _ _ _ _ _ _ _).mono ?_
 rintro e w1 ⟨rfl, hb1⟩
 rw [Hfit.out]
 obtain ⟨c0, c1, c2, hbw⟩ := box3 hb1
 clear hb1
 go_wp2_with (first | (go_at_call 133; refine (isWord_any _ _ (by omega) _).mono ?_; rintro e w' ⟨rfl, rfl⟩) | (go_at_call 161; refine (Hsh.out _).mono ?_; rintro e w' ⟨rfl, rfl⟩) | (go_at_call 210; refine (calc_7 _ _ _ (by omega) (by omega) (by omega) (by omega) _).mono ?_; rintro e w' ⟨rfl, rfl⟩) | (go_at_call 208; refine (within_any _ _ (by omega) _).mono ?_; rintro e w' ⟨rfl, rfl⟩))
 refine wp_loop_rounds 4 ?_
 rw [rounds_succ]
 go_wp2_with (first | (go_at_call 133; refine (isWord_any _ _ (by omega) _).mono ?_; rintro e w' ⟨rfl, rfl⟩) | (go_at_call 161; refine (Hsh.out _).mono ?_; rintro e w' ⟨rfl, rfl⟩) | (go_at_call 210; refine (calc_7 _ _ _ (by omega) (by omega) (by omega) (by omega) _).mono ?_; rintro e w' ⟨rfl, rfl⟩) | (go_at_call 208; refine (within_any _ _ (by omega) _).mono ?_; rintro e w' ⟨rfl, rfl⟩))
 rw [rounds_succ]
 go_wp2_with (first | (go_at_call 133; refine (isWord_any _ _ (by omega) _).mono ?_; rintro e w' ⟨rfl, rfl⟩) | (go_at_call 161; refine (Hsh.out _).mono ?_; rintro e w' ⟨rfl, rfl⟩) | (go_at_call 210; refine (calc_7 _ _ _ (by omega) (by omega) (by omega) (by omega) _).mono ?_; rintro e w' ⟨rfl, rfl⟩) | (go_at_call 208; refine (within_any _ _ (by omega) _).mono ?_; rintro e w' ⟨rfl, rfl⟩))
 rw [rounds_succ]
 go_wp2_with (first | (go_at_call 133; refine (isWord_any _ _ (by omega) _).mono ?_; rintro e w' ⟨rfl, rfl⟩) | (go_at_call 161; refine (Hsh.out _).mono ?_; rintro e w' ⟨rfl, rfl⟩) | (go_at_call 210; refine (calc_7 _ _ _ (by omega) (by omega) (by omega) (by omega) _).mono ?_; rintro e w' ⟨rfl, rfl⟩) | (go_at_call 208; refine (within_any _ _ (by omega) _).mono ?_; rintro e w' ⟨rfl, rfl⟩))
 rw [rounds_succ]
 go_wp2_with (first | (go_at_call 133; refine (isWord_any _ _ (by omega) _).mono ?_; rintro e w' ⟨rfl, rfl⟩) | (go_at_call 161; refine (Hsh.out _).mono ?_; rintro e w' ⟨rfl, rfl⟩) | (go_at_call 210; refine (calc_7 _ _ _ (by omega) (by omega) (by omega) (by omega) _).mono ?_; rintro e w' ⟨rfl, rfl⟩) | (go_at_call 208; refine (within_any _ _ (by omega) _).mono ?_; rintro e w' ⟨rfl, rfl⟩))
 go_ret2
 exact ⟨ret2 (m7 _ _ _ _ _ _ _ (by omega) B1.out (by omega) B2.out), by repeat (first | exact hbw | refine bal ?_ _)⟩
set_option maxRecDepth 100000 in
set_option maxHeartbeats 2000000 in
theorem apply_8 (v a b c n wa wb wc : Int) (hfit : fitE 8 v n wa wb wc = 0) (ha : isW a wa = true) (hb : isW b wb = true) (hc : isW c wc = true) (w : World) :
   Calls Tryz.prog 185 #[.int .i64 8, .int .i64 v, .int .i64 a, .int .i64 b, .int .i64 c, .int .i64 n, arr3 wa wb wc] w fun e w' => e = .returned (.tuple #[.int .i64 (madeE 8 v a b c n wa wb), .int .i64 0]) ∧ Below w.heap.size w w' := by
 obtain ⟨hv, hr, hok, hn, _⟩ := fit_zero hfit
 obtain ⟨ba, bb, bc⟩ := rng_bd hr
 have hr1 : 1 ≤ wa := by
   simp [rngOk, takes, btw] at hr
   omega
 have h0 := isW_iff.1 ha
 have h1 := isW_iff.1 hb
 have ta := (two_bd ba).2
 have tb := (two_bd bb).2
 have g0 : 0 ≤ a ∧ a < 256 := by omega
 have g1 : 0 ≤ b ∧ b < 256 := by omega
 simp only [okOf] at hok
 obtain ⟨rfl, rfl⟩ : wa = v ∧ wb = v := by simpa using hok
 have B1 : Hid _ := h0.2
 have B2 : Hid _ := h1.2
 have Hsh : Hid (∀ w, Calls Tryz.prog 161 #[.int .i64 8] w fun e w' => e = .returned (.int .i64 2) ∧ w' = w) := shapeOf_any 8
 have Hfit : Hid _ := hfit
 clear hfit hr hok hn h0 h1 ta tb
 have i0 : ∀ w : World, (Instr.index 164 (arr3 a b c) (.int .i64 0)).run Tryz.prog w = .ok (.int .i64 a) w := fun _ => by kernel_rfl
 have i1 : ∀ w : World, (Instr.index 164 (arr3 a b c) (.int .i64 1)).run Tryz.prog w = .ok (.int .i64 b) w := fun _ => by kernel_rfl
 have i2 : ∀ w : World, (Instr.index 164 (arr3 a b c) (.int .i64 2)).run Tryz.prog w = .ok (.int .i64 c) w := fun _ => by kernel_rfl
 go_enter Tryz.func185, Tryz.ntmps185
 go_wp2_with fail
 refine (fit_any _ _ _ _ _ _ _).mono ?_
 rintro e w1 ⟨rfl, hb1⟩
 rw [Hfit.out]
 obtain ⟨c0, c1, c2, hbw⟩ := box3 hb1
 clear hb1
 go_wp2_with (first | (go_at_call 133; refine (isWord_any _ _ (by omega) _).mono ?_; rintro e w' ⟨rfl, rfl⟩) | (go_at_call 161; refine (Hsh.out _).mono ?_; rintro e w' ⟨rfl, rfl⟩) | (go_at_call 210; refine (calc_8 _ _ _ (by omega) (by omega) (by omega) (by omega) _).mono ?_; rintro e w' ⟨rfl, rfl⟩) | (go_at_call 208; refine (within_any _ _ (by omega) _).mono ?_; rintro e w' ⟨rfl, rfl⟩))
 refine wp_loop_rounds 4 ?_
 rw [rounds_succ]
 go_wp2_with (first | (go_at_call 133; refine (isWord_any _ _ (by omega) _).mono ?_; rintro e w' ⟨rfl, rfl⟩) | (go_at_call 161; refine (Hsh.out _).mono ?_; rintro e w' ⟨rfl, rfl⟩) | (go_at_call 210; refine (calc_8 _ _ _ (by omega) (by omega) (by omega) (by omega) _).mono ?_; rintro e w' ⟨rfl, rfl⟩) | (go_at_call 208; refine (within_any _ _ (by omega) _).mono ?_; rintro e w' ⟨rfl, rfl⟩))
 rw [rounds_succ]
 go_wp2_with (first | (go_at_call 133; refine (isWord_any _ _ (by omega) _).mono ?_; rintro e w' ⟨rfl, rfl⟩) | (go_at_call 161; refine (Hsh.out _).mono ?_; rintro e w' ⟨rfl, rfl⟩) | (go_at_call 210; refine (calc_8 _ _ _ (by omega) (by omega) (by omega) (by omega) _).mono ?_; rintro e w' ⟨rfl, rfl⟩) | (go_at_call 208; refine (within_any _ _ (by omega) _).mono ?_; rintro e w' ⟨rfl, rfl⟩))
 rw [rounds_succ]
 go_wp2_with (first | (go_at_call 133; refine (isWord_any _ _ (by omega) _).mono ?_; rintro e w' ⟨rfl, rfl⟩) | (go_at_call 161; refine (Hsh.out _).mono ?_; rintro e w' ⟨rfl, rfl⟩) | (go_at_call 210; refine (calc_8 _ _ _ (by omega) (by omega) (by omega) (by omega) _).mono ?_; rintro e w' ⟨rfl, rfl⟩) | (go_at_call 208; refine (within_any _ _ (by omega) _).mono ?_; rintro e w' ⟨rfl, rfl⟩))
 rw [rounds_succ]
 go_wp2_with (first | (go_at_call 133; refine (isWord_any _ _ (by omega) _).mono ?_; rintro e w' ⟨rfl, rfl⟩) | (go_at_call 161; refine (Hsh.out _).mono ?_; rintro e w' ⟨rfl, rfl⟩) | (go_at_call 210; refine (calc_8 _ _ _ (by omega) (by omega) (by omega) (by omega) _).mono ?_; rintro e w' ⟨rfl, rfl⟩) | (go_at_call 208; refine (within_any _ _ (by omega) _).mono ?_; rintro e w' ⟨rfl, rfl⟩))
 go_ret2
 exact ⟨ret2 (m8 _ _ _ _ _ _ _ (by omega) B1.out (by omega) B2.out), by repeat (first | exact hbw | refine bal ?_ _)⟩
set_option maxRecDepth 100000 in
set_option maxHeartbeats 2000000 in
theorem apply_9 (v a b c n wa wb wc : Int) (hfit : fitE 9 v n wa wb wc = 0) (ha : isW a wa = true) (hb : isW b wb = true) (hc : isW c wc = true) (w : World) :
   Calls Tryz.prog 185 #[.int .i64 9, .int .i64 v, .int .i64 a, .int .i64 b, .int .i64 c, .int .i64 n, arr3 wa wb wc] w fun e w' => e = .returned (.tuple #[.int .i64 (madeE 9 v a b c n wa wb), .int .i64 0]) ∧ Below w.heap.size w w' := by
 obtain ⟨hv, hr, hok, hn, _⟩ := fit_zero hfit
 obtain ⟨ba, bb, bc⟩ := rng_bd hr
 have hr1 : 1 ≤ wa := by
   simp [rngOk, takes, btw] at hr
   omega
 have h0 := isW_iff.1 ha
 have h1 := isW_iff.1 hb
 have ta := (two_bd ba).2
 have tb := (two_bd bb).2
 have g0 : 0 ≤ a ∧ a < 256 := by omega
 have g1 : 0 ≤ b ∧ b < 256 := by omega
 simp only [okOf] at hok
 obtain ⟨rfl, rfl⟩ : wa = v ∧ wb = v := by simpa using hok
 have B1 : Hid _ := h0.2
 have B2 : Hid _ := h1.2
 have Hsh : Hid (∀ w, Calls Tryz.prog 161 #[.int .i64 9] w fun e w' => e = .returned (.int .i64 2) ∧ w' = w) := shapeOf_any 9
 have Hfit : Hid _ := hfit
 clear hfit hr hok hn h0 h1 ta tb
 have i0 : ∀ w : World, (Instr.index 164 (arr3 a b c) (.int .i64 0)).run Tryz.prog w = .ok (.int .i64 a) w := fun _ => by kernel_rfl
 have i1 : ∀ w : World, (Instr.index 164 (arr3 a b c) (.int .i64 1)).run Tryz.prog w = .ok (.int .i64 b) w := fun _ => by kernel_rfl
 have i2 : ∀ w : World, (Instr.index 164 (arr3 a b c) (.int .i64 2)).run Tryz.prog w = .ok (.int .i64 c) w := fun _ => by kernel_rfl
 go_enter Tryz.func185, Tryz.ntmps185
 go_wp2_with fail
 refine (fit_any _ _ _ _ _ _ _).mono ?_
 rintro e w1 ⟨rfl, hb1⟩
 rw [Hfit.out]
 obtain ⟨c0, c1, c2, hbw⟩ := box3 hb1
 clear hb1
 go_wp2_with (first | (go_at_call 133; refine (isWord_any _ _ (by omega) _).mono ?_; rintro e w' ⟨rfl, rfl⟩) | (go_at_call 161; refine (Hsh.out _).mono ?_; rintro e w' ⟨rfl, rfl⟩) | (go_at_call 210; refine (calc_9 _ _ _ (by omega) (by omega) (by omega) (by omega) _).mono ?_; rintro e w' ⟨rfl, rfl⟩) | (go_at_call 208; refine (within_any _ _ (by omega) _).mono ?_; rintro e w' ⟨rfl, rfl⟩))
 refine wp_loop_rounds 4 ?_
 rw [rounds_succ]
 go_wp2_with (first | (go_at_call 133; refine (isWord_any _ _ (by omega) _).mono ?_; rintro e w' ⟨rfl, rfl⟩) | (go_at_call 161; refine (Hsh.out _).mono ?_; rintro e w' ⟨rfl, rfl⟩) | (go_at_call 210; refine (calc_9 _ _ _ (by omega) (by omega) (by omega) (by omega) _).mono ?_; rintro e w' ⟨rfl, rfl⟩) | (go_at_call 208; refine (within_any _ _ (by omega) _).mono ?_; rintro e w' ⟨rfl, rfl⟩))
 rw [rounds_succ]
 go_wp2_with (first | (go_at_call 133; refine (isWord_any _ _ (by omega) _).mono ?_; rintro e w' ⟨rfl, rfl⟩) | (go_at_call 161; refine (Hsh.out _).mono ?_; rintro e w' ⟨rfl, rfl⟩) | (go_at_call 210; refine (calc_9 _ _ _ (by omega) (by omega) (by omega) (by omega) _).mono ?_; rintro e w' ⟨rfl, rfl⟩) | (go_at_call 208; refine (within_any _ _ (by omega) _).mono ?_; rintro e w' ⟨rfl, rfl⟩))
 rw [rounds_succ]
 go_wp2_with (first | (go_at_call 133; refine (isWord_any _ _ (by omega) _).mono ?_; rintro e w' ⟨rfl, rfl⟩) | (go_at_call 161; refine (Hsh.out _).mono ?_; rintro e w' ⟨rfl, rfl⟩) | (go_at_call 210; refine (calc_9 _ _ _ (by omega) (by omega) (by omega) (by omega) _).mono ?_; rintro e w' ⟨rfl, rfl⟩) | (go_at_call 208; refine (within_any _ _ (by omega) _).mono ?_; rintro e w' ⟨rfl, rfl⟩))
 rw [rounds_succ]
 go_wp2_with (first | (go_at_call 133; refine (isWord_any _ _ (by omega) _).mono ?_; rintro e w' ⟨rfl, rfl⟩) | (go_at_call 161; refine (Hsh.out _).mono ?_; rintro e w' ⟨rfl, rfl⟩) | (go_at_call 210; refine (calc_9 _ _ _ (by omega) (by omega) (by omega) (by omega) _).mono ?_; rintro e w' ⟨rfl, rfl⟩) | (go_at_call 208; refine (within_any _ _ (by omega) _).mono ?_; rintro e w' ⟨rfl, rfl⟩))
 go_ret2
 exact ⟨ret2 (rfl), by repeat (first | exact hbw | refine bal ?_ _)⟩
set_option maxRecDepth 100000 in
set_option maxHeartbeats 2000000 in
theorem apply_10 (v a b c n wa wb wc : Int) (hfit : fitE 10 v n wa wb wc = 0) (ha : isW a wa = true) (hb : isW b wb = true) (hc : isW c wc = true) (w : World) :
   Calls Tryz.prog 185 #[.int .i64 10, .int .i64 v, .int .i64 a, .int .i64 b, .int .i64 c, .int .i64 n, arr3 wa wb wc] w fun e w' => e = .returned (.tuple #[.int .i64 (madeE 10 v a b c n wa wb), .int .i64 0]) ∧ Below w.heap.size w w' := by
 obtain ⟨hv, hr, hok, hn, _⟩ := fit_zero hfit
 obtain ⟨ba, bb, bc⟩ := rng_bd hr
 have hr1 : 1 ≤ wa := by
   simp [rngOk, takes, btw] at hr
   omega
 have h0 := isW_iff.1 ha
 have h1 := isW_iff.1 hb
 have ta := (two_bd ba).2
 have tb := (two_bd bb).2
 have g0 : 0 ≤ a ∧ a < 256 := by omega
 have g1 : 0 ≤ b ∧ b < 256 := by omega
 simp only [okOf] at hok
 obtain ⟨rfl, rfl⟩ : wa = v ∧ wb = v := by simpa using hok
 have B1 : Hid _ := h0.2
 have B2 : Hid _ := h1.2
 have Hsh : Hid (∀ w, Calls Tryz.prog 161 #[.int .i64 10] w fun e w' => e = .returned (.int .i64 2) ∧ w' = w) := shapeOf_any 10
 have Hfit : Hid _ := hfit
 clear hfit hr hok hn h0 h1 ta tb
 have i0 : ∀ w : World, (Instr.index 164 (arr3 a b c) (.int .i64 0)).run Tryz.prog w = .ok (.int .i64 a) w := fun _ => by kernel_rfl
 have i1 : ∀ w : World, (Instr.index 164 (arr3 a b c) (.int .i64 1)).run Tryz.prog w = .ok (.int .i64 b) w := fun _ => by kernel_rfl
 have i2 : ∀ w : World, (Instr.index 164 (arr3 a b c) (.int .i64 2)).run Tryz.prog w = .ok (.int .i64 c) w := fun _ => by kernel_rfl
 go_enter Tryz.func185, Tryz.ntmps185
 go_wp2_with fail
 refine (fit_any _ _ _ _ _ _ _).mono ?_
 rintro e w1 ⟨rfl, hb1⟩
 rw [Hfit.out]
 obtain ⟨c0, c1, c2, hbw⟩ := box3 hb1
 clear hb1
 go_wp2_with (first | (go_at_call 133; refine (isWord_any _ _ (by omega) _).mono ?_; rintro e w' ⟨rfl, rfl⟩) | (go_at_call 161; refine (Hsh.out _).mono ?_; rintro e w' ⟨rfl, rfl⟩) | (go_at_call 210; refine (calc_10 _ _ _ (by omega) (by omega) (by omega) (by omega) _).mono ?_; rintro e w' ⟨rfl, rfl⟩) | (go_at_call 208; refine (within_any _ _ (by omega) _).mono ?_; rintro e w' ⟨rfl, rfl⟩))
 refine wp_loop_rounds 4 ?_
 rw [rounds_succ]
 go_wp2_with (first | (go_at_call 133; refine (isWord_any _ _ (by omega) _).mono ?_; rintro e w' ⟨rfl, rfl⟩) | (go_at_call 161; refine (Hsh.out _).mono ?_; rintro e w' ⟨rfl, rfl⟩) | (go_at_call 210; refine (calc_10 _ _ _ (by omega) (by omega) (by omega) (by omega) _).mono ?_; rintro e w' ⟨rfl, rfl⟩) | (go_at_call 208; refine (within_any _ _ (by omega) _).mono ?_; rintro e w' ⟨rfl, rfl⟩))
 rw [rounds_succ]
 go_wp2_with (first | (go_at_call 133; refine (isWord_any _ _ (by omega) _).mono ?_; rintro e w' ⟨rfl, rfl⟩) | (go_at_call 161; refine (Hsh.out _).mono ?_; rintro e w' ⟨rfl, rfl⟩) | (go_at_call 210; refine (calc_10 _ _ _ (by omega) (by omega) (by omega) (by omega) _).mono ?_; rintro e w' ⟨rfl, rfl⟩) | (go_at_call 208; refine (within_any _ _ (by omega) _).mono ?_; rintro e w' ⟨rfl, rfl⟩))
 rw [rounds_succ]
 go_wp2_with (first | (go_at_call 133; refine (isWord_any _ _ (by omega) _).mono ?_; rintro e w' ⟨rfl, rfl⟩) | (go_at_call 161; refine (Hsh.out _).mono ?_; rintro e w' ⟨rfl, rfl⟩) | (go_at_call 210; refine (calc_10 _ _ _ (by omega) (by omega) (by omega) (by omega) _).mono ?_; rintro e w' ⟨rfl, rfl⟩) | (go_at_call 208; refine (within_any _ _ (by omega) _).mono ?_; rintro e w' ⟨rfl, rfl⟩))
 rw [rounds_succ]
 go_wp2_with (first | (go_at_call 133; refine (isWord_any _ _ (by omega) _).mono ?_; rintro e w' ⟨rfl, rfl⟩) | (go_at_call 161; refine (Hsh.out _).mono ?_; rintro e w' ⟨rfl, rfl⟩) | (go_at_call 210; refine (calc_10 _ _ _ (by omega) (by omega) (by omega) (by omega) _).mono ?_; rintro e w' ⟨rfl, rfl⟩) | (go_at_call 208; refine (within_any _ _ (by omega) _).mono ?_; rintro e w' ⟨rfl, rfl⟩))
 go_ret2
 exact ⟨ret2 (m10 _ _ _ _ _ _ _), by repeat (first | exact hbw | refine bal ?_ _)⟩
set_option maxRecDepth 100000 in
set_option maxHeartbeats 2000000 in
theorem apply_11 (v a b c n wa wb wc : Int) (hfit : fitE 11 v n wa wb wc = 0) (ha : isW a wa = true) (hb : isW b wb = true) (hc : isW c wc = true) (w : World) :
   Calls Tryz.prog 185 #[.int .i64 11, .int .i64 v, .int .i64 a, .int .i64 b, .int .i64 c, .int .i64 n, arr3 wa wb wc] w fun e w' => e = .returned (.tuple #[.int .i64 (madeE 11 v a b c n wa wb), .int .i64 0]) ∧ Below w.heap.size w w' := by
 obtain ⟨hv, hr, hok, hn, _⟩ := fit_zero hfit
 obtain ⟨ba, bb, bc⟩ := rng_bd hr
 have hr1 : 1 ≤ wa := by
   simp [rngOk, takes, btw] at hr
   omega
 have h0 := isW_iff.1 ha
 have h1 := isW_iff.1 hb
 have ta := (two_bd ba).2
 have tb := (two_bd bb).2
 have g0 : 0 ≤ a ∧ a < 256 := by omega
 have g1 : 0 ≤ b ∧ b < 256 := by omega
 simp only [okOf] at hok
 obtain ⟨rfl, rfl⟩ : wa = v ∧ wb = v := by simpa using hok
 have B1 : Hid _ := h0.2
 have B2 : Hid _ := h1.2
 have Hsh : Hid (∀ w, Calls Tryz.prog 161 #[.int .i64 11] w fun e w' => e = .returned (.int .i64 2) ∧ w' = w) := shapeOf_any 11
 have Hfit : Hid _ := hfit
 clear hfit hr hok hn h0 h1 ta tb
 have i0 : ∀ w : World, (Instr.index 164 (arr3 a b c) (.int .i64 0)).run Tryz.prog w = .ok (.int .i64 a) w := fun _ => by kernel_rfl
 have i1 : ∀ w : World, (Instr.index 164 (arr3 a b c) (.int .i64 1)).run Tryz.prog w = .ok (.int .i64 b) w := fun _ => by kernel_rfl
 have i2 : ∀ w : World, (Instr.index 164 (arr3 a b c) (.int .i64 2)).run Tryz.prog w = .ok (.int .i64 c) w := fun _ => by kernel_rfl
 go_enter Tryz.func185, Tryz.ntmps185
 go_wp2_with fail
 refine (fit_any _ _ _ _ _ _ _).mono ?_
 rintro e w1 ⟨rfl, hb1⟩
 rw [Hfit.out]
 obtain ⟨c0, c1, c2, hbw⟩ := box3 hb1
 clear hb1
 go_wp2_with (first | (go_at_call 133; refine (isWord_any _ _ (by omega) _).mono ?_; rintro e w' ⟨rfl, rfl⟩) | (go_at_call 161; refine (Hsh.out _).mono ?_; rintro e w' ⟨rfl, rfl⟩) | (go_at_call 210; refine (calc_11 _ _ _ (by omega) (by omega) (by omega) (by omega) _).mono ?_; rintro e w' ⟨rfl, rfl⟩) | (go_at_call 208; refine (within_any _ _ (by omega) _).mono ?_; rintro e w' ⟨rfl, rfl⟩))
 refine wp_loop_rounds 4 ?_
 rw [rounds_succ]
 go_wp2_with (first | (go_at_call 133; refine (isWord_any _ _ (by omega) _).mono ?_; rintro e w' ⟨rfl, rfl⟩) | (go_at_call 161; refine (Hsh.out _).mono ?_; rintro e w' ⟨rfl, rfl⟩) | (go_at_call 210; refine (calc_11 _ _ _ (by omega) (by omega) (by omega) (by omega) _).mono ?_; rintro e w' ⟨rfl, rfl⟩) | (go_at_call 208; refine (within_any _ _ (by omega) _).mono ?_; rintro e w' ⟨rfl, rfl⟩))
 rw [rounds_succ]
 go_wp2_with (first | (go_at_call 133; refine (isWord_any _ _ (by omega) _).mono ?_; rintro e w' ⟨rfl, rfl⟩) | (go_at_call 161; refine (Hsh.out _).mono ?_; rintro e w' ⟨rfl, rfl⟩) | (go_at_call 210; refine (calc_11 _ _ _ (by omega) (by omega) (by omega) (by omega) _).mono ?_; rintro e w' ⟨rfl, rfl⟩) | (go_at_call 208; refine (within_any _ _ (by omega) _).mono ?_; rintro e w' ⟨rfl, rfl⟩))
 rw [rounds_succ]
 go_wp2_with (first | (go_at_call 133; refine (isWord_any _ _ (by omega) _).mono ?_; rintro e w' ⟨rfl, rfl⟩) | (go_at_call 161; refine (Hsh.out _).mono ?_; rintro e w' ⟨rfl, rfl⟩) | (go_at_call 210; refine (calc_11 _ _ _ (by omega) (by omega) (by omega) (by omega) _).mono ?_; rintro e w' ⟨rfl, rfl⟩) | (go_at_call 208; refine (within_any _ _ (by omega) _).mono ?_; rintro e w' ⟨rfl, rfl⟩))
 rw [rounds_succ]
 go_wp2_with (first | (go_at_call 133; refine (isWord_any _ _ (by omega) _).mono ?_; rintro e w' ⟨rfl, rfl⟩) | (go_at_call 161; refine (Hsh.out _).mono ?_; rintro e w' ⟨rfl, rfl⟩) | (go_at_call 210; refine (calc_11 _ _ _ (by omega) (by omega) (by omega) (by omega) _).mono ?_; rintro e w' ⟨rfl, rfl⟩) | (go_at_call 208; refine (within_any _ _ (by omega) _).mono ?_; rintro e w' ⟨rfl, rfl⟩))
 go_ret2
 exact ⟨ret2 (rfl), by repeat (first | exact hbw | refine bal ?_ _)⟩
set_option maxRecDepth 100000 in
set_option maxHeartbeats 2000000 in
theorem apply_12 (v a b c n wa wb wc : Int) (hfit : fitE 12 v n wa wb wc = 0) (ha : isW a wa = true) (hb : isW b wb = true) (hc : isW c wc = true) (w : World) :
   Calls Tryz.prog 185 #[.int .i64 12, .int .i64 v, .int .i64 a, .int .i64 b, .int .i64 c, .int .i64 n, arr3 wa wb wc] w fun e w' => e = .returned (.tuple #[.int .i64 (madeE 12 v a b c n wa wb), .int .i64 0]) ∧ Below w.heap.size w w' := by
 obtain ⟨hv, hr, hok, hn, _⟩ := fit_zero hfit
 obtain ⟨ba, bb, bc⟩ := rng_bd hr
 have hr1 : 1 ≤ wa := by
   simp [rngOk, takes, btw] at hr
   omega
 have h0 := isW_iff.1 ha
 have h1 := isW_iff.1 hb
 have ta := (two_bd ba).2
 have tb := (two_bd bb).2
 have g0 : 0 ≤ a ∧ a < 256 := by omega
 have g1 : 0 ≤ b ∧ b < 256 := by omega
 simp only [okOf] at hok
 obtain ⟨rfl, rfl⟩ : wa = v ∧ wb = v := by simpa using hok
 have B1 : Hid _ := h0.2
 have B2 : Hid _ := h1.2
 have Hsh : Hid (∀ w, Calls Tryz.prog 161 #[.int .i64 12] w fun e w' => e = .returned (.int .i64 2) ∧ w' = w) := shapeOf_any 12
 have Hfit : Hid _ := hfit
 clear hfit hr hok hn h0 h1 ta tb
 have i0 : ∀ w : World, (Instr.index 164 (arr3 a b c) (.int .i64 0)).run Tryz.prog w = .ok (.int .i64 a) w := fun _ => by kernel_rfl
 have i1 : ∀ w : World, (Instr.index 164 (arr3 a b c) (.int .i64 1)).run Tryz.prog w = .ok (.int .i64 b) w := fun _ => by kernel_rfl
 have i2 : ∀ w : World, (Instr.index 164 (arr3 a b c) (.int .i64 2)).run Tryz.prog w = .ok (.int .i64 c) w := fun _ => by kernel_rfl
 go_enter Tryz.func185, Tryz.ntmps185
 go_wp2_with fail
 refine (fit_any _ _ _ _ _ _ _).mono ?_
 rintro e w1 ⟨rfl, hb1⟩
 rw [Hfit.out]
 obtain ⟨c0, c1, c2, hbw⟩ := box3 hb1
 clear hb1
 go_wp2_with (first | (go_at_call 133; refine (isWord_any _ _ (by omega) _).mono ?_; rintro e w' ⟨rfl, rfl⟩) | (go_at_call 161; refine (Hsh.out _).mono ?_; rintro e w' ⟨rfl, rfl⟩) | (go_at_call 210; refine (calc_12 _ _ _ (by omega) (by omega) (by omega) (by omega) _).mono ?_; rintro e w' ⟨rfl, rfl⟩) | (go_at_call 208; refine (within_any _ _ (by omega) _).mono ?_; rintro e w' ⟨rfl, rfl⟩))
 refine wp_loop_rounds 4 ?_
 rw [rounds_succ]
 go_wp2_with (first | (go_at_call 133; refine (isWord_any _ _ (by omega) _).mono ?_; rintro e w' ⟨rfl, rfl⟩) | (go_at_call 161; refine (Hsh.out _).mono ?_; rintro e w' ⟨rfl, rfl⟩) | (go_at_call 210; refine (calc_12 _ _ _ (by omega) (by omega) (by omega) (by omega) _).mono ?_; rintro e w' ⟨rfl, rfl⟩) | (go_at_call 208; refine (within_any _ _ (by omega) _).mono ?_; rintro e w' ⟨rfl, rfl⟩))
 rw [rounds_succ]
 go_wp2_with (first | (go_at_call 133; refine (isWord_any _ _ (by omega) _).mono ?_; rintro e w' ⟨rfl, rfl⟩) | (go_at_call 161; refine (Hsh.out _).mono ?_; rintro e w' ⟨rfl, rfl⟩) | (go_at_call 210; refine (calc_12 _ _ _ (by omega) (by omega) (by omega) (by omega) _).mono ?_; rintro e w' ⟨rfl, rfl⟩) | (go_at_call 208; refine (within_any _ _ (by omega) _).mono ?_; rintro e w' ⟨rfl, rfl⟩))
 rw [rounds_succ]
 go_wp2_with (first | (go_at_call 133; refine (isWord_any _ _ (by omega) _).mono ?_; rintro e w' ⟨rfl, rfl⟩) | (go_at_call 161; refine (Hsh.out _).mono ?_; rintro e w' ⟨rfl, rfl⟩) | (go_at_call 210; refine (calc_12 _ _ _ (by omega) (by omega) (by omega) (by omega) _).mono ?_; rintro e w' ⟨rfl, rfl⟩) | (go_at_call 208; refine (within_any _ _ (by omega) _).mono ?_; rintro e w' ⟨rfl, rfl⟩))
 rw [rounds_succ]
 go_wp2_with (first | (go_at_call 133; refine (isWord_any _ _ (by omega) _).mono ?_; rintro e w' ⟨rfl, rfl⟩) | (go_at_call 161; refine (Hsh.out _).mono ?_; rintro e w' ⟨rfl, rfl⟩) | (go_at_call 210; refine (calc_12 _ _ _ (by omega) (by omega) (by omega) (by omega) _).mono ?_; rintro e w' ⟨rfl, rfl⟩) | (go_at_call 208; refine (within_any _ _ (by omega) _).mono ?_; rintro e w' ⟨rfl, rfl⟩))
 go_ret2
 exact ⟨ret2 (m12 _ _ _ _ _ _ _ (by omega) B1.out (by omega)), by repeat (first | exact hbw | refine bal ?_ _)⟩
set_option maxRecDepth 100000 in
set_option maxHeartbeats 2000000 in
theorem apply_20 (v a b c n wa wb wc : Int) (hfit : fitE 20 v n wa wb wc = 0) (ha : isW a wa = true) (hb : isW b wb = true) (hc : isW c wc = true) (w : World) :
   Calls Tryz.prog 185 #[.int .i64 20, .int .i64 v, .int .i64 a, .int .i64 b, .int .i64 c, .int .i64 n, arr3 wa wb wc] w fun e w' => e = .returned (.tuple #[.int .i64 (madeE 20 v a b c n wa wb), .int .i64 0]) ∧ Below w.heap.size w w' := by
 obtain ⟨hv, hr, hok, hn, _⟩ := fit_zero hfit
 obtain ⟨ba, bb, bc⟩ := rng_bd hr
 have hr1 : 1 ≤ wa := by
   simp [rngOk, takes, btw] at hr
   omega
 have h0 := isW_iff.1 ha
 have h1 := isW_iff.1 hb
 have ta := (two_bd ba).2
 have tb := (two_bd bb).2
 have g0 : 0 ≤ a ∧ a < 256 := by omega
 have g1 : 0 ≤ b ∧ b < 256 := by omega
 simp only [okOf] at hok
 have hsum : wa + wb = v := by simpa using hok
 have hj := join_or a b wa wb (by omega) (by omega) (by omega) h0.1 h0.2 h1.1 h1.2
 have hpz : 0 ≤ a * two wb := Int.mul_nonneg h0.1 (Int.le_of_lt (two_pos wb))
 have J : Hid (bits .or .i64 (wrap64 (a * 2 ^ wb.toNat)) b = madeE 20 v a b c n wa wb) := by
   show bits .or .i64 (wrap64 (a * two wb)) b = a * two wb + b
   have hwr : wrap64 (a * two wb) = a * two wb := by
     have := hj.1
     unfold wrap64
     omega
   rw [hwr, i64_or _ _ hpz hj.1 h1.1 (by omega), hj.2]
 have B1 : Hid _ := h0.2
 have B2 : Hid _ := h1.2
 have Hsh : Hid (∀ w, Calls Tryz.prog 161 #[.int .i64 20] w fun e w' => e = .returned (.int .i64 5) ∧ w' = w) := shapeOf_any 20
 have Hfit : Hid _ := hfit
 clear hfit hr hok hn h0 h1 ta tb hj hpz
 have i0 : ∀ w : World, (Instr.index 164 (arr3 a b c) (.int .i64 0)).run Tryz.prog w = .ok (.int .i64 a) w := fun _ => by kernel_rfl
 have i1 : ∀ w : World, (Instr.index 164 (arr3 a b c) (.int .i64 1)).run Tryz.prog w = .ok (.int .i64 b) w := fun _ => by kernel_rfl
 have i2 : ∀ w : World, (Instr.index 164 (arr3 a b c) (.int .i64 2)).run Tryz.prog w = .ok (.int .i64 c) w := fun _ => by kernel_rfl
 go_enter Tryz.func185, Tryz.ntmps185
 go_wp2_with fail
 refine (fit_any _ _ _ _ _ _ _).mono ?_
 rintro e w1 ⟨rfl, hb1⟩
 rw [Hfit.out]
 obtain ⟨c0, c1, c2, hbw⟩ := box3 hb1
 clear hb1
 go_wp2_with (first | (go_at_call 133; refine (isWord_any _ _ (by omega) _).mono ?_; rintro e w' ⟨rfl, rfl⟩) | (go_at_call 161; refine (Hsh.out _).mono ?_; rintro e w' ⟨rfl, rfl⟩))
 refine wp_loop_rounds 4 ?_
 rw [rounds_succ]
 go_wp2_with (first | (go_at_call 133; refine (isWord_any _ _ (by omega) _).mono ?_; rintro e w' ⟨rfl, rfl⟩) | (go_at_call 161; refine (Hsh.out _).mono ?_; rintro e w' ⟨rfl, rfl⟩))
 rw [rounds_succ]
 go_wp2_with (first | (go_at_call 133; refine (isWord_any _ _ (by omega) _).mono ?_; rintro e w' ⟨rfl, rfl⟩) | (go_at_call 161; refine (Hsh.out _).mono ?_; rintro e w' ⟨rfl, rfl⟩))
 rw [rounds_succ]
 go_wp2_with (first | (go_at_call 133; refine (isWord_any _ _ (by omega) _).mono ?_; rintro e w' ⟨rfl, rfl⟩) | (go_at_call 161; refine (Hsh.out _).mono ?_; rintro e w' ⟨rfl, rfl⟩))
 rw [rounds_succ]
 go_wp2_with (first | (go_at_call 133; refine (isWord_any _ _ (by omega) _).mono ?_; rintro e w' ⟨rfl, rfl⟩) | (go_at_call 161; refine (Hsh.out _).mono ?_; rintro e w' ⟨rfl, rfl⟩))
 go_ret2
 exact ⟨ret2 (J.out), by repeat (first | exact hbw | refine bal ?_ _)⟩
end Go.Proofs.YtjhkecnnhddhbaaGreatDoor.Ev
