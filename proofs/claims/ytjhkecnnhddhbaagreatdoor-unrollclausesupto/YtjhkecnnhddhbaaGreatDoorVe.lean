/- Apply, where all is right: what an operation makes. -/
import Derived.Test.YtjhkecnnhddhbaaGreatDoorVd
namespace Go.Proofs.YtjhkecnnhddhbaaGreatDoor.Ev
open Go.RowKit
set_option maxRecDepth 100000
set_option maxRecDepth 100000 in
set_option maxHeartbeats 2000000 in
theorem apply_13 (v a b c n wa wb wc : Int) (hfit : fitE 13 v n wa wb wc = 0) (ha : isW a wa = true) (hb : isW b wb = true) (hc : isW c wc = true) (w : World) :
   Calls Tryz.prog 185 #[.int .i64 13, .int .i64 v, .int .i64 a, .int .i64 b, .int .i64 c, .int .i64 n, arr3 wa wb wc] w fun e w' => e = .returned (.tuple #[.int .i64 (madeE 13 v a b c n wa wb), .int .i64 0]) ∧ Below w.heap.size w w' := by
 obtain ⟨hv, hr, hok, hn, _⟩ := fit_zero hfit
 obtain ⟨ba, bb, bc⟩ := rng_bd hr
 have hr1 : 1 ≤ wa := by
   simp [rngOk, takes, btw] at hr
   omega
 have h0 := isW_iff.1 ha
 have h1 := isW_iff.1 hb
 have ta := (two_bd ba).2
 have tb := (two_bd bb).2
 have g0 : 0 ≤ a ∧ a < 256 := by omega
 have g1 : 0 ≤ b ∧ b < 256 := by omega
 simp only [okOf] at hok
 obtain ⟨rfl, rfl⟩ : wa = v ∧ wb = v := by simpa using hok
 have B1 : Hid _ := h0.2
 have B2 : Hid _ := h1.2
 have Hsh : Hid (∀ w, Calls Tryz.prog 161 #[.int .i64 13] w fun e w' => e = .returned (.int .i64 2) ∧ w' = w) := shapeOf_any 13
 have Hfit : Hid _ := hfit
 clear hfit hr hok hn h0 h1 ta tb
 have i0 : ∀ w : World, (Instr.index 164 (arr3 a b c) (.int .i64 0)).run Tryz.prog w = .ok (.int .i64 a) w := fun _ => by kernel_rfl
 have i1 : ∀ w : World, (Instr.index 164 (arr3 a b c) (.int .i64 1)).run Tryz.prog w = .ok (.int .i64 b) w := fun _ => by kernel_rfl
 have i2 : ∀ w : World, (Instr.index 164 (arr3 a b c) (.int .i64 2)).run Tryz.prog w = .ok (.int .i64 c) w := fun _ => by kernel_rfl
 go_enter Tryz.func185, Tryz.ntmps185
 go_wp2_with fail
 refine (fit_any _ _ _ _ _ _ _).mono ?_
 rintro e w1 ⟨rfl, hb1⟩
 rw [Hfit.out]
 obtain ⟨c0, c1, c2, hbw⟩ := box3 hb1
 clear hb1
 go_wp2_with (first | (go_at_call 133; refine (isWord_any _ _ (by omega) _).mono ?_; rintro e w' ⟨rfl, rfl⟩) | (go_at_call 161; refine (Hsh.out _).mono ?_; rintro e w' ⟨rfl, rfl⟩) | (go_at_call 210; refine (calc_13 _ _ _ (by omega) (by omega) (by omega) (by omega) _).mono ?_; rintro e w' ⟨rfl, rfl⟩) | (go_at_call 208; refine (within_any _ _ (by omega) _).mono ?_; rintro e w' ⟨rfl, rfl⟩))
 refine wp_loop_rounds 4 ?_
 rw [rounds_succ]
 go_wp2_with (first | (go_at_call 133; refine (isWord_any _ _ (by omega) _).mono ?_; rintro e w' ⟨rfl, rfl⟩) | (go_at_call 161; refine (Hsh.out _).mono ?_; rintro e w' ⟨rfl, rfl⟩) | (go_at_call 210; refine (calc_13 _ _ _ (by omega) (by omega) (by omega) (by omega) _).mono ?_; rintro e w' ⟨rfl, rfl⟩) | (go_at_call 208; refine (within_any _ _ (by omega) _).mono ?_; rintro e w' ⟨rfl, rfl⟩))
 rw [rounds_succ]
 go_wp2_with (first | (go_at_call 133; refine (isWord_any _ _ (by omega) _).mono ?_; rintro e w' ⟨rfl, rfl⟩) | (go_at_call 161; refine (Hsh.out _).mono ?_; rintro e w' ⟨rfl, rfl⟩) | (go_at_call 210; refine (calc_13 _ _ _ (by omega) (by omega) (by omega) (by omega) _).mono ?_; rintro e w' ⟨rfl, rfl⟩) | (go_at_call 208; refine (within_any _ _ (by omega) _).mono ?_; rintro e w' ⟨rfl, rfl⟩))
 rw [rounds_succ]
 go_wp2_with (first | (go_at_call 133; refine (isWord_any _ _ (by omega) _).mono ?_; rintro e w' ⟨rfl, rfl⟩) | (go_at_call 161; refine (Hsh.out _).mono ?_; rintro e w' ⟨rfl, rfl⟩) | (go_at_call 210; refine (calc_13 _ _ _ (by omega) (by omega) (by omega) (by omega) _).mono ?_; rintro e w' ⟨rfl, rfl⟩) | (go_at_call 208; refine (within_any _ _ (by omega) _).mono ?_; rintro e w' ⟨rfl, rfl⟩))
 rw [rounds_succ]
 go_wp2_with (first | (go_at_call 133; refine (isWord_any _ _ (by omega) _).mono ?_; rintro e w' ⟨rfl, rfl⟩) | (go_at_call 161; refine (Hsh.out _).mono ?_; rintro e w' ⟨rfl, rfl⟩) | (go_at_call 210; refine (calc_13 _ _ _ (by omega) (by omega) (by omega) (by omega) _).mono ?_; rintro e w' ⟨rfl, rfl⟩) | (go_at_call 208; refine (within_any _ _ (by omega) _).mono ?_; rintro e w' ⟨rfl, rfl⟩))
 go_ret2
 exact ⟨ret2 (m13 _ _ _ _ _ _ _ (by omega) B1.out (by omega) B2.out), by repeat (first | exact hbw | refine bal ?_ _)⟩
set_option maxRecDepth 100000 in
set_option maxHeartbeats 2000000 in
theorem apply_14 (v a b c n wa wb wc : Int) (hfit : fitE 14 v n wa wb wc = 0) (ha : isW a wa = true) (hb : isW b wb = true) (hc : isW c wc = true) (w : World) :
   Calls Tryz.prog 185 #[.int .i64 14, .int .i64 v, .int .i64 a, .int .i64 b, .int .i64 c, .int .i64 n, arr3 wa wb wc] w fun e w' => e = .returned (.tuple #[.int .i64 (madeE 14 v a b c n wa wb), .int .i64 0]) ∧ Below w.heap.size w w' := by
 obtain ⟨hv, hr, hok, hn, _⟩ := fit_zero hfit
 obtain ⟨ba, bb, bc⟩ := rng_bd hr
 have hr1 : 1 ≤ wa := by
   simp [rngOk, takes, btw] at hr
   omega
 have h0 := isW_iff.1 ha
 have h1 := isW_iff.1 hb
 have ta := (two_bd ba).2
 have tb := (two_bd bb).2
 have g0 : 0 ≤ a ∧ a < 256 := by omega
 have g1 : 0 ≤ b ∧ b < 256 := by omega
 simp only [okOf] at hok
 obtain ⟨rfl, rfl⟩ : wa = v ∧ wb = v := by simpa using hok
 have B1 : Hid _ := h0.2
 have B2 : Hid _ := h1.2
 have Hsh : Hid (∀ w, Calls Tryz.prog 161 #[.int .i64 14] w fun e w' => e = .returned (.int .i64 2) ∧ w' = w) := shapeOf_any 14
 have Hfit : Hid _ := hfit
 clear hfit hr hok hn h0 h1 ta tb
 have i0 : ∀ w : World, (Instr.index 164 (arr3 a b c) (.int .i64 0)).run Tryz.prog w = .ok (.int .i64 a) w := fun _ => by kernel_rfl
 have i1 : ∀ w : World, (Instr.index 164 (arr3 a b c) (.int .i64 1)).run Tryz.prog w = .ok (.int .i64 b) w := fun _ => by kernel_rfl
 have i2 : ∀ w : World, (Instr.index 164 (arr3 a b c) (.int .i64 2)).run Tryz.prog w = .ok (.int .i64 c) w := fun _ => by kernel_rfl
 go_enter Tryz.func185, Tryz.ntmps185
 go_wp2_with fail
 refine (fit_any _ _ _ _ _ _ _).mono ?_
 rintro e w1 ⟨rfl, hb1⟩
 rw [Hfit.out]
 obtain ⟨c0, c1, c2, hbw⟩ := box3 hb1
 clear hb1
 go_wp2_with (first | (go_at_call 133; refine (isWord_any _ _ (by omega) _).mono ?_; rintro e w' ⟨rfl, rfl⟩) | (go_at_call 161; refine (Hsh.out _).mono ?_; rintro e w' ⟨rfl, rfl⟩) | (go_at_call 210; refine (calc_14 _ _ _ (by omega) (by omega) (by omega) (by omega) _).mono ?_; rintro e w' ⟨rfl, rfl⟩) | (go_at_call 208; refine (within_any _ _ (by omega) _).mono ?_; rintro e w' ⟨rfl, rfl⟩))
 refine wp_loop_rounds 4 ?_
 rw [rounds_succ]
 go_wp2_with (first | (go_at_call 133; refine (isWord_any _ _ (by omega) _).mono ?_; rintro e w' ⟨rfl, rfl⟩) | (go_at_call 161; refine (Hsh.out _).mono ?_; rintro e w' ⟨rfl, rfl⟩) | (go_at_call 210; refine (calc_14 _ _ _ (by omega) (by omega) (by omega) (by omega) _).mono ?_; rintro e w' ⟨rfl, rfl⟩) | (go_at_call 208; refine (within_any _ _ (by omega) _).mono ?_; rintro e w' ⟨rfl, rfl⟩))
 rw [rounds_succ]
 go_wp2_with (first | (go_at_call 133; refine (isWord_any _ _ (by omega) _).mono ?_; rintro e w' ⟨rfl, rfl⟩) | (go_at_call 161; refine (Hsh.out _).mono ?_; rintro e w' ⟨rfl, rfl⟩) | (go_at_call 210; refine (calc_14 _ _ _ (by omega) (by omega) (by omega) (by omega) _).mono ?_; rintro e w' ⟨rfl, rfl⟩) | (go_at_call 208; refine (within_any _ _ (by omega) _).mono ?_; rintro e w' ⟨rfl, rfl⟩))
 rw [rounds_succ]
 go_wp2_with (first | (go_at_call 133; refine (isWord_any _ _ (by omega) _).mono ?_; rintro e w' ⟨rfl, rfl⟩) | (go_at_call 161; refine (Hsh.out _).mono ?_; rintro e w' ⟨rfl, rfl⟩) | (go_at_call 210; refine (calc_14 _ _ _ (by omega) (by omega) (by omega) (by omega) _).mono ?_; rintro e w' ⟨rfl, rfl⟩) | (go_at_call 208; refine (within_any _ _ (by omega) _).mono ?_; rintro e w' ⟨rfl, rfl⟩))
 rw [rounds_succ]
 go_wp2_with (first | (go_at_call 133; refine (isWord_any _ _ (by omega) _).mono ?_; rintro e w' ⟨rfl, rfl⟩) | (go_at_call 161; refine (Hsh.out _).mono ?_; rintro e w' ⟨rfl, rfl⟩) | (go_at_call 210; refine (calc_14 _ _ _ (by omega) (by omega) (by omega) (by omega) _).mono ?_; rintro e w' ⟨rfl, rfl⟩) | (go_at_call 208; refine (within_any _ _ (by omega) _).mono ?_; rintro e w' ⟨rfl, rfl⟩))
 go_ret2
 exact ⟨ret2 (m14 _ _ _ _ _ _ _), by repeat (first | exact hbw | refine bal ?_ _)⟩
set_option maxRecDepth 100000 in
set_option maxHeartbeats 2000000 in
theorem apply_15 (v a b c n wa wb wc : Int) (hfit : fitE 15 v n wa wb wc = 0) (ha : isW a wa = true) (hb : isW b wb = true) (hc : isW c wc = true) (w : World) :
   Calls Tryz.prog 185 #[.int .i64 15, .int .i64 v, .int .i64 a, .int .i64 b, .int .i64 c, .int .i64 n, arr3 wa wb wc] w fun e w' => e = .returned (.tuple #[.int .i64 (madeE 15 v a b c n wa wb), .int .i64 0]) ∧ Below w.heap.size w w' := by
 obtain ⟨hv, hr, hok, hn, _⟩ := fit_zero hfit
 obtain ⟨ba, bb, bc⟩ := rng_bd hr
 have hr1 : 1 ≤ wa := by
   simp [rngOk, takes, btw] at hr
   omega
 have h0 := isW_iff.1 ha
 have h1 := isW_iff.1 hb
 have ta := (two_bd ba).2
 have tb := (two_bd bb).2
 have g0 : 0 ≤ a ∧ a < 256 := by omega
 have g1 : 0 ≤ b ∧ b < 256 := by omega
 simp only [okOf] at hok
 obtain ⟨rfl, rfl⟩ : wa = v ∧ wb = v := by simpa using hok
 have B1 : Hid _ := h0.2
 have B2 : Hid _ := h1.2
 have Hsh : Hid (∀ w, Calls Tryz.prog 161 #[.int .i64 15] w fun e w' => e = .returned (.int .i64 2) ∧ w' = w) := shapeOf_any 15
 have Hfit : Hid _ := hfit
 clear hfit hr hok hn h0 h1 ta tb
 have i0 : ∀ w : World, (Instr.index 164 (arr3 a b c) (.int .i64 0)).run Tryz.prog w = .ok (.int .i64 a) w := fun _ => by kernel_rfl
 have i1 : ∀ w : World, (Instr.index 164 (arr3 a b c) (.int .i64 1)).run Tryz.prog w = .ok (.int .i64 b) w := fun _ => by kernel_rfl
 have i2 : ∀ w : World, (Instr.index 164 (arr3 a b c) (.int .i64 2)).run Tryz.prog w = .ok (.int .i64 c) w := fun _ => by kernel_rfl
 go_enter Tryz.func185, Tryz.ntmps185
 go_wp2_with fail
 refine (fit_any _ _ _ _ _ _ _).mono ?_
 rintro e w1 ⟨rfl, hb1⟩
 rw [Hfit.out]
 obtain ⟨c0, c1, c2, hbw⟩ := box3 hb1
 clear hb1
 go_wp2_with (first | (go_at_call 133; refine (isWord_any _ _ (by omega) _).mono ?_; rintro e w' ⟨rfl, rfl⟩) | (go_at_call 161; refine (Hsh.out _).mono ?_; rintro e w' ⟨rfl, rfl⟩) | (go_at_call 210; refine (calc_15 _ _ _ (by omega) (by omega) _).mono ?_; rintro e w' ⟨rfl, rfl⟩) | (go_at_call 208; refine (within_any _ _ (by omega) _).mono ?_; rintro e w' ⟨rfl, rfl⟩))
 refine wp_loop_rounds 4 ?_
 rw [rounds_succ]
 go_wp2_with (first | (go_at_call 133; refine (isWord_any _ _ (by omega) _).mono ?_; rintro e w' ⟨rfl, rfl⟩) | (go_at_call 161; refine (Hsh.out _).mono ?_; rintro e w' ⟨rfl, rfl⟩) | (go_at_call 210; refine (calc_15 _ _ _ (by omega) (by omega) _).mono ?_; rintro e w' ⟨rfl, rfl⟩) | (go_at_call 208; refine (within_any _ _ (by omega) _).mono ?_; rintro e w' ⟨rfl, rfl⟩))
 rw [rounds_succ]
 go_wp2_with (first | (go_at_call 133; refine (isWord_any _ _ (by omega) _).mono ?_; rintro e w' ⟨rfl, rfl⟩) | (go_at_call 161; refine (Hsh.out _).mono ?_; rintro e w' ⟨rfl, rfl⟩) | (go_at_call 210; refine (calc_15 _ _ _ (by omega) (by omega) _).mono ?_; rintro e w' ⟨rfl, rfl⟩) | (go_at_call 208; refine (within_any _ _ (by omega) _).mono ?_; rintro e w' ⟨rfl, rfl⟩))
 rw [rounds_succ]
 go_wp2_with (first | (go_at_call 133; refine (isWord_any _ _ (by omega) _).mono ?_; rintro e w' ⟨rfl, rfl⟩) | (go_at_call 161; refine (Hsh.out _).mono ?_; rintro e w' ⟨rfl, rfl⟩) | (go_at_call 210; refine (calc_15 _ _ _ (by omega) (by omega) _).mono ?_; rintro e w' ⟨rfl, rfl⟩) | (go_at_call 208; refine (within_any _ _ (by omega) _).mono ?_; rintro e w' ⟨rfl, rfl⟩))
 rw [rounds_succ]
 go_wp2_with (first | (go_at_call 133; refine (isWord_any _ _ (by omega) _).mono ?_; rintro e w' ⟨rfl, rfl⟩) | (go_at_call 161; refine (Hsh.out _).mono ?_; rintro e w' ⟨rfl, rfl⟩) | (go_at_call 210; refine (calc_15 _ _ _ (by omega) (by omega) _).mono ?_; rintro e w' ⟨rfl, rfl⟩) | (go_at_call 208; refine (within_any _ _ (by omega) _).mono ?_; rintro e w' ⟨rfl, rfl⟩))
 go_ret2
 exact ⟨ret2 (m15 _ _ _ _ _ _ _ (by omega) B1.out), by repeat (first | exact hbw | refine bal ?_ _)⟩
set_option maxRecDepth 100000 in
set_option maxHeartbeats 2000000 in
theorem apply_16 (v a b c n wa wb wc : Int) (hfit : fitE 16 v n wa wb wc = 0) (ha : isW a wa = true) (hb : isW b wb = true) (hc : isW c wc = true) (w : World) :
   Calls Tryz.prog 185 #[.int .i64 16, .int .i64 v, .int .i64 a, .int .i64 b, .int .i64 c, .int .i64 n, arr3 wa wb wc] w fun e w' => e = .returned (.tuple #[.int .i64 (madeE 16 v a b c n wa wb), .int .i64 0]) ∧ Below w.heap.size w w' := by
 obtain ⟨hv, hr, hok, hn, _⟩ := fit_zero hfit
 obtain ⟨ba, bb, bc⟩ := rng_bd hr
 have hr1 : 1 ≤ wa := by
   simp [rngOk, takes, btw] at hr
   omega
 have h0 := isW_iff.1 ha
 have h1 := isW_iff.1 hb
 have ta := (two_bd ba).2
 have tb := (two_bd bb).2
 have g0 : 0 ≤ a ∧ a < 256 := by omega
 have g1 : 0 ≤ b ∧ b < 256 := by omega
 simp only [okOf] at hok
 obtain ⟨rfl, e1⟩ : wa = wb ∧ v = 1 := by simpa using hok
 clear e1
 have B1 : Hid _ := h0.2
 have B2 : Hid _ := h1.2
 have Hsh : Hid (∀ w, Calls Tryz.prog 161 #[.int .i64 16] w fun e w' => e = .returned (.int .i64 3) ∧ w' = w) := shapeOf_any 16
 have Hfit : Hid _ := hfit
 clear hfit hr hok hn h0 h1 ta tb
 have i0 : ∀ w : World, (Instr.index 164 (arr3 a b c) (.int .i64 0)).run Tryz.prog w = .ok (.int .i64 a) w := fun _ => by kernel_rfl
 have i1 : ∀ w : World, (Instr.index 164 (arr3 a b c) (.int .i64 1)).run Tryz.prog w = .ok (.int .i64 b) w := fun _ => by kernel_rfl
 have i2 : ∀ w : World, (Instr.index 164 (arr3 a b c) (.int .i64 2)).run Tryz.prog w = .ok (.int .i64 c) w := fun _ => by kernel_rfl
 go_enter Tryz.func185, Tryz.ntmps185
 go_wp2_with fail
 refine (fit_any _ _ _ _ _ _ _).mono ?_
 rintro e w1 ⟨rfl, hb1⟩
 rw [Hfit.out]
 obtain ⟨c0, c1, c2, hbw⟩ := box3 hb1
 clear hb1
 go_wp2_with (first | (go_at_call 133; refine (isWord_any _ _ (by omega) _).mono ?_; rintro e w' ⟨rfl, rfl⟩) | (go_at_call 161; refine (Hsh.out _).mono ?_; rintro e w' ⟨rfl, rfl⟩) | (go_at_call 207; refine (cmp_16 _ _ _ _).mono ?_; rintro e w' ⟨rfl, rfl⟩))
 refine wp_loop_rounds 4 ?_
 rw [rounds_succ]
 go_wp2_with (first | (go_at_call 133; refine (isWord_any _ _ (by omega) _).mono ?_; rintro e w' ⟨rfl, rfl⟩) | (go_at_call 161; refine (Hsh.out _).mono ?_; rintro e w' ⟨rfl, rfl⟩) | (go_at_call 207; refine (cmp_16 _ _ _ _).mono ?_; rintro e w' ⟨rfl, rfl⟩))
 rw [rounds_succ]
 go_wp2_with (first | (go_at_call 133; refine (isWord_any _ _ (by omega) _).mono ?_; rintro e w' ⟨rfl, rfl⟩) | (go_at_call 161; refine (Hsh.out _).mono ?_; rintro e w' ⟨rfl, rfl⟩) | (go_at_call 207; refine (cmp_16 _ _ _ _).mono ?_; rintro e w' ⟨rfl, rfl⟩))
 rw [rounds_succ]
 go_wp2_with (first | (go_at_call 133; refine (isWord_any _ _ (by omega) _).mono ?_; rintro e w' ⟨rfl, rfl⟩) | (go_at_call 161; refine (Hsh.out _).mono ?_; rintro e w' ⟨rfl, rfl⟩) | (go_at_call 207; refine (cmp_16 _ _ _ _).mono ?_; rintro e w' ⟨rfl, rfl⟩))
 rw [rounds_succ]
 go_wp2_with (first | (go_at_call 133; refine (isWord_any _ _ (by omega) _).mono ?_; rintro e w' ⟨rfl, rfl⟩) | (go_at_call 161; refine (Hsh.out _).mono ?_; rintro e w' ⟨rfl, rfl⟩) | (go_at_call 207; refine (cmp_16 _ _ _ _).mono ?_; rintro e w' ⟨rfl, rfl⟩))
 go_ret2
 exact ⟨ret2 (rfl), by repeat (first | exact hbw | refine bal ?_ _)⟩
set_option maxRecDepth 100000 in
set_option maxHeartbeats 2000000 in
theorem apply_17 (v a b c n wa wb wc : Int) (hfit : fitE 17 v n wa wb wc = 0) (ha : isW a wa = true) (hb : isW b wb = true) (hc : isW c wc = true) (w : World) :
   Calls Tryz.prog 185 #[.int .i64 17, .int .i64 v, .int .i64 a, .int .i64 b, .int .i64 c, .int .i64 n, arr3 wa wb wc] w fun e w' => e = .returned (.tuple #[.int .i64 (madeE 17 v a b c n wa wb), .int .i64 0]) ∧ Below w.heap.size w w' := by
 obtain ⟨hv, hr, hok, hn, _⟩ := fit_zero hfit
 obtain ⟨ba, bb, bc⟩ := rng_bd hr
 have hr1 : 1 ≤ wa := by
   simp [rngOk, takes, btw] at hr
   omega
 have h0 := isW_iff.1 ha
 have h1 := isW_iff.1 hb
 have ta := (two_bd ba).2
 have tb := (two_bd bb).2
 have g0 : 0 ≤ a ∧ a < 256 := by omega
 have g1 : 0 ≤ b ∧ b < 256 := by omega
 simp only [okOf] at hok
 obtain ⟨rfl, e1⟩ : wa = wb ∧ v = 1 := by simpa using hok
 clear e1
 have B1 : Hid _ := h0.2
 have B2 : Hid _ := h1.2
 have Hsh : Hid (∀ w, Calls Tryz.prog 161 #[.int .i64 17] w fun e w' => e = .returned (.int .i64 3) ∧ w' = w) := shapeOf_any 17
 have Hfit : Hid _ := hfit
 clear hfit hr hok hn h0 h1 ta tb
 have i0 : ∀ w : World, (Instr.index 164 (arr3 a b c) (.int .i64 0)).run Tryz.prog w = .ok (.int .i64 a) w := fun _ => by kernel_rfl
 have i1 : ∀ w : World, (Instr.index 164 (arr3 a b c) (.int .i64 1)).run Tryz.prog w = .ok (.int .i64 b) w := fun _ => by kernel_rfl
 have i2 : ∀ w : World, (Instr.index 164 (arr3 a b c) (.int .i64 2)).run Tryz.prog w = .ok (.int .i64 c) w := fun _ => by kernel_rfl
 go_enter Tryz.func185, Tryz.ntmps185
 go_wp2_with fail
 refine (fit_any _ _ _ _ _ _ _).mono ?_
 rintro e w1 ⟨rfl, hb1⟩
 rw [Hfit.out]
 obtain ⟨c0, c1, c2, hbw⟩ := box3 hb1
 clear hb1
 go_wp2_with (first | (go_at_call 133; refine (isWord_any _ _ (by omega) _).mono ?_; rintro e w' ⟨rfl, rfl⟩) | (go_at_call 161; refine (Hsh.out _).mono ?_; rintro e w' ⟨rfl, rfl⟩) | (go_at_call 207; refine (cmp_17 _ _ _ _).mono ?_; rintro e w' ⟨rfl, rfl⟩))
 refine wp_loop_rounds 4 ?_
 rw [rounds_succ]
 go_wp2_with (first | (go_at_call 133; refine (isWord_any _ _ (by omega) _).mono ?_; rintro e w' ⟨rfl, rfl⟩) | (go_at_call 161; refine (Hsh.out _).mono ?_; rintro e w' ⟨rfl, rfl⟩) | (go_at_call 207; refine (cmp_17 _ _ _ _).mono ?_; rintro e w' ⟨rfl, rfl⟩))
 rw [rounds_succ]
 go_wp2_with (first | (go_at_call 133; refine (isWord_any _ _ (by omega) _).mono ?_; rintro e w' ⟨rfl, rfl⟩) | (go_at_call 161; refine (Hsh.out _).mono ?_; rintro e w' ⟨rfl, rfl⟩) | (go_at_call 207; refine (cmp_17 _ _ _ _).mono ?_; rintro e w' ⟨rfl, rfl⟩))
 rw [rounds_succ]
 go_wp2_with (first | (go_at_call 133; refine (isWord_any _ _ (by omega) _).mono ?_; rintro e w' ⟨rfl, rfl⟩) | (go_at_call 161; refine (Hsh.out _).mono ?_; rintro e w' ⟨rfl, rfl⟩) | (go_at_call 207; refine (cmp_17 _ _ _ _).mono ?_; rintro e w' ⟨rfl, rfl⟩))
 rw [rounds_succ]
 go_wp2_with (first | (go_at_call 133; refine (isWord_any _ _ (by omega) _).mono ?_; rintro e w' ⟨rfl, rfl⟩) | (go_at_call 161; refine (Hsh.out _).mono ?_; rintro e w' ⟨rfl, rfl⟩) | (go_at_call 207; refine (cmp_17 _ _ _ _).mono ?_; rintro e w' ⟨rfl, rfl⟩))
 go_ret2
 exact ⟨ret2 (rfl), by repeat (first | exact hbw | refine bal ?_ _)⟩
set_option maxRecDepth 100000 in
set_option maxHeartbeats 2000000 in
theorem apply_18 (v a b c n wa wb wc : Int) (hfit : fitE 18 v n wa wb wc = 0) (ha : isW a wa = true) (hb : isW b wb = true) (hc : isW c wc = true) (w : World) :
   Calls Tryz.prog 185 #[.int .i64 18, .int .i64 v, .int .i64 a, .int .i64 b, .int .i64 c, .int .i64 n, arr3 wa wb wc] w fun e w' => e = .returned (.tuple #[.int .i64 (madeE 18 v a b c n wa wb), .int .i64 0]) ∧ Below w.heap.size w w' := by
 obtain ⟨hv, hr, hok, hn, _⟩ := fit_zero hfit
 obtain ⟨ba, bb, bc⟩ := rng_bd hr
 have hr1 : 1 ≤ wa := by
   simp [rngOk, takes, btw] at hr
   omega
 have h0 := isW_iff.1 ha
 have h1 := isW_iff.1 hb
 have ta := (two_bd ba).2
 have tb := (two_bd bb).2
 have g0 : 0 ≤ a ∧ a < 256 := by omega
 have g1 : 0 ≤ b ∧ b < 256 := by omega
 simp only [okOf] at hok
 obtain ⟨rfl, e1⟩ : wa = wb ∧ v = 1 := by simpa using hok
 clear e1
 have B1 : Hid _ := h0.2
 have B2 : Hid _ := h1.2
 have Hsh : Hid (∀ w, Calls Tryz.prog 161 #[.int .i64 18] w fun e w' => e = .returned (.int .i64 3) ∧ w' = w) := shapeOf_any 18
 have Hfit : Hid _ := hfit
 clear hfit hr hok hn h0 h1 ta tb
 have i0 : ∀ w : World, (Instr.index 164 (arr3 a b c) (.int .i64 0)).run Tryz.prog w = .ok (.int .i64 a) w := fun _ => by kernel_rfl
 have i1 : ∀ w : World, (Instr.index 164 (arr3 a b c) (.int .i64 1)).run Tryz.prog w = .ok (.int .i64 b) w := fun _ => by kernel_rfl
 have i2 : ∀ w : World, (Instr.index 164 (arr3 a b c) (.int .i64 2)).run Tryz.prog w = .ok (.int .i64 c) w := fun _ => by kernel_rfl
 go_enter Tryz.func185, Tryz.ntmps185
 go_wp2_with fail
 refine (fit_any _ _ _ _ _ _ _).mono ?_
 rintro e w1 ⟨rfl, hb1⟩
 rw [Hfit.out]
 obtain ⟨c0, c1, c2, hbw⟩ := box3 hb1
 clear hb1
 go_wp2_with (first | (go_at_call 133; refine (isWord_any _ _ (by omega) _).mono ?_; rintro e w' ⟨rfl, rfl⟩) | (go_at_call 161; refine (Hsh.out _).mono ?_; rintro e w' ⟨rfl, rfl⟩) | (go_at_call 207; refine (cmp_18 _ _ _ (by omega) (by omega) B1.out (by omega) B2.out _).mono ?_; rintro e w' ⟨rfl, rfl⟩))
 refine wp_loop_rounds 4 ?_
 rw [rounds_succ]
 go_wp2_with (first | (go_at_call 133; refine (isWord_any _ _ (by omega) _).mono ?_; rintro e w' ⟨rfl, rfl⟩) | (go_at_call 161; refine (Hsh.out _).mono ?_; rintro e w' ⟨rfl, rfl⟩) | (go_at_call 207; refine (cmp_18 _ _ _ (by omega) (by omega) B1.out (by omega) B2.out _).mono ?_; rintro e w' ⟨rfl, rfl⟩))
 rw [rounds_succ]
 go_wp2_with (first | (go_at_call 133; refine (isWord_any _ _ (by omega) _).mono ?_; rintro e w' ⟨rfl, rfl⟩) | (go_at_call 161; refine (Hsh.out _).mono ?_; rintro e w' ⟨rfl, rfl⟩) | (go_at_call 207; refine (cmp_18 _ _ _ (by omega) (by omega) B1.out (by omega) B2.out _).mono ?_; rintro e w' ⟨rfl, rfl⟩))
 rw [rounds_succ]
 go_wp2_with (first | (go_at_call 133; refine (isWord_any _ _ (by omega) _).mono ?_; rintro e w' ⟨rfl, rfl⟩) | (go_at_call 161; refine (Hsh.out _).mono ?_; rintro e w' ⟨rfl, rfl⟩) | (go_at_call 207; refine (cmp_18 _ _ _ (by omega) (by omega) B1.out (by omega) B2.out _).mono ?_; rintro e w' ⟨rfl, rfl⟩))
 rw [rounds_succ]
 go_wp2_with (first | (go_at_call 133; refine (isWord_any _ _ (by omega) _).mono ?_; rintro e w' ⟨rfl, rfl⟩) | (go_at_call 161; refine (Hsh.out _).mono ?_; rintro e w' ⟨rfl, rfl⟩) | (go_at_call 207; refine (cmp_18 _ _ _ (by omega) (by omega) B1.out (by omega) B2.out _).mono ?_; rintro e w' ⟨rfl, rfl⟩))
 go_ret2
 exact ⟨ret2 (rfl), by repeat (first | exact hbw | refine bal ?_ _)⟩
set_option maxRecDepth 100000 in
set_option maxHeartbeats 2000000 in
theorem apply_19 (v a b c n wa wb wc : Int) (hfit : fitE 19 v n wa wb wc = 0) (ha : isW a wa = true) (hb : isW b wb = true) (hc : isW c wc = true) (w : World) :
   Calls Tryz.prog 185 #[.int .i64 19, .int .i64 v, .int .i64 a, .int .i64 b, .int .i64 c, .int .i64 n, arr3 wa wb wc] w fun e w' => e = .returned (.tuple #[.int .i64 (madeE 19 v a b c n wa wb), .int .i64 0]) ∧ Below w.heap.size w w' := by
 obtain ⟨hv, hr, hok, hn, _⟩ := fit_zero hfit
 obtain ⟨ba, bb, bc⟩ := rng_bd hr
 have hr1 : 1 ≤ wa := by
   simp [rngOk, takes, btw] at hr
   omega
 have h0 := isW_iff.1 ha
 have h1 := isW_iff.1 hb
 have ta := (two_bd ba).2
 have tb := (two_bd bb).2
 have g0 : 0 ≤ a ∧ a < 256 := by omega
 have g1 : 0 ≤ b ∧ b < 256 := by omega
 simp only [okOf] at hok
 obtain ⟨⟨e1, rfl⟩, e2⟩ : (wa = 1 ∧ wb = v) ∧ wc = v := by simpa using hok
 clear e1 e2
 have B1 : Hid _ := h0.2
 have B2 : Hid _ := h1.2
 have Hsh : Hid (∀ w, Calls Tryz.prog 161 #[.int .i64 19] w fun e w' => e = .returned (.int .i64 4) ∧ w' = w) := shapeOf_any 19
 have Hfit : Hid _ := hfit
 clear hfit hr hok hn h0 h1 ta tb
 have i0 : ∀ w : World, (Instr.index 164 (arr3 a b c) (.int .i64 0)).run Tryz.prog w = .ok (.int .i64 a) w := fun _ => by kernel_rfl
 have i1 : ∀ w : World, (Instr.index 164 (arr3 a b c) (.int .i64 1)).run Tryz.prog w = .ok (.int .i64 b) w := fun _ => by kernel_rfl
 have i2 : ∀ w : World, (Instr.index 164 (arr3 a b c) (.int .i64 2)).run Tryz.prog w = .ok (.int .i64 c) w := fun _ => by kernel_rfl
 by_cases ha1 : a = 1
 · have ha' : (a == 1) = true := by simp [ha1]
   have Hm : Hid (madeE 19 wb a b c n wa wb = b) := by show (if a = 1 then b else c) = b; rw [if_pos ha1]
   clear ha1
   go_enter Tryz.func185, Tryz.ntmps185
   go_wp2_with fail
   refine (fit_any _ _ _ _ _ _ _).mono ?_
   rintro e w1 ⟨rfl, hb1⟩
   rw [Hfit.out]
   obtain ⟨c0, c1, c2, hbw⟩ := box3 hb1
   clear hb1
   go_wp2_with (first | (go_at_call 133; refine (isWord_any _ _ (by omega) _).mono ?_; rintro e w' ⟨rfl, rfl⟩) | (go_at_call 161; refine (Hsh.out _).mono ?_; rintro e w' ⟨rfl, rfl⟩))
   refine wp_loop_rounds 4 ?_
   rw [rounds_succ]
   go_wp2_with (first | (go_at_call 133; refine (isWord_any _ _ (by omega) _).mono ?_; rintro e w' ⟨rfl, rfl⟩) | (go_at_call 161; refine (Hsh.out _).mono ?_; rintro e w' ⟨rfl, rfl⟩))
   rw [rounds_succ]
   go_wp2_with (first | (go_at_call 133; refine (isWord_any _ _ (by omega) _).mono ?_; rintro e w' ⟨rfl, rfl⟩) | (go_at_call 161; refine (Hsh.out _).mono ?_; rintro e w' ⟨rfl, rfl⟩))
   rw [rounds_succ]
   go_wp2_with (first | (go_at_call 133; refine (isWord_any _ _ (by omega) _).mono ?_; rintro e w' ⟨rfl, rfl⟩) | (go_at_call 161; refine (Hsh.out _).mono ?_; rintro e w' ⟨rfl, rfl⟩))
   rw [rounds_succ]
   go_wp2_with (first | (go_at_call 133; refine (isWord_any _ _ (by omega) _).mono ?_; rintro e w' ⟨rfl, rfl⟩) | (go_at_call 161; refine (Hsh.out _).mono ?_; rintro e w' ⟨rfl, rfl⟩))
   go_ret2
   exact ⟨ret2 Hm.out.symm, by repeat (first | exact hbw | refine bal ?_ _)⟩
 · have ha' : (a == 1) = false := by simp [ha1]
   have Hm : Hid (madeE 19 wb a b c n wa wb = c) := by show (if a = 1 then b else c) = c; rw [if_neg ha1]
   clear ha1
   go_enter Tryz.func185, Tryz.ntmps185
   go_wp2_with fail
   refine (fit_any _ _ _ _ _ _ _).mono ?_
   rintro e w1 ⟨rfl, hb1⟩
   rw [Hfit.out]
   obtain ⟨c0, c1, c2, hbw⟩ := box3 hb1
   clear hb1
   go_wp2_with (first | (go_at_call 133; refine (isWord_any _ _ (by omega) _).mono ?_; rintro e w' ⟨rfl, rfl⟩) | (go_at_call 161; refine (Hsh.out _).mono ?_; rintro e w' ⟨rfl, rfl⟩))
   refine wp_loop_rounds 4 ?_
   rw [rounds_succ]
   go_wp2_with (first | (go_at_call 133; refine (isWord_any _ _ (by omega) _).mono ?_; rintro e w' ⟨rfl, rfl⟩) | (go_at_call 161; refine (Hsh.out _).mono ?_; rintro e w' ⟨rfl, rfl⟩))
   rw [rounds_succ]
   go_wp2_with (first | (go_at_call 133; refine (isWord_any _ _ (by omega) _).mono ?_; rintro e w' ⟨rfl, rfl⟩) | (go_at_call 161; refine (Hsh.out _).mono ?_; rintro e w' ⟨rfl, rfl⟩))
   rw [rounds_succ]
   go_wp2_with (first | (go_at_call 133; refine (isWord_any _ _ (by omega) _).mono ?_; rintro e w' ⟨rfl, rfl⟩) | (go_at_call 161; refine (Hsh.out _).mono ?_; rintro e w' ⟨rfl, rfl⟩))
   rw [rounds_succ]
   go_wp2_with (first | (go_at_call 133; refine (isWord_any _ _ (by omega) _).mono ?_; rintro e w' ⟨rfl, rfl⟩) | (go_at_call 161; refine (Hsh.out _).mono ?_; rintro e w' ⟨rfl, rfl⟩))
   go_ret2
   exact ⟨ret2 Hm.out.symm, by repeat (first | exact hbw | refine bal ?_ _)⟩
set_option maxRecDepth 100000 in
set_option maxHeartbeats 2000000 in
theorem apply_21 (v a b c n wa wb wc : Int) (hfit : fitE 21 v n wa wb wc = 0) (ha : isW a wa = true) (hb : isW b wb = true) (hc : isW c wc = true) (w : World) :
   Calls Tryz.prog 185 #[.int .i64 21, .int .i64 v, .int .i64 a, .int .i64 b, .int .i64 c, .int .i64 n, arr3 wa wb wc] w fun e w' => e = .returned (.tuple #[.int .i64 (madeE 21 v a b c n wa wb), .int .i64 0]) ∧ Below w.heap.size w w' := by
 obtain ⟨hv, hr, hok, hn, _⟩ := fit_zero hfit
 obtain ⟨ba, bb, bc⟩ := rng_bd hr
 have hr1 : 1 ≤ wa := by
   simp [rngOk, takes, btw] at hr
   omega
 have h0 := isW_iff.1 ha
 have h1 := isW_iff.1 hb
 have ta := (two_bd ba).2
 have tb := (two_bd bb).2
 have g0 : 0 ≤ a ∧ a < 256 := by omega
 have g1 : 0 ≤ b ∧ b < 256 := by omega
 simp only [okOf] at hok
 have hcut : (0 ≤ n ∧ n ≤ 8) ∧ n + v ≤ wa := by simpa using hok
 have hsh : Op.shift .shr .i64 a .i64 n = pure (.int .i64 (a / two n)) := shift_shr .i64 .i64 a n (by omega) (by show n ≤ 64; omega)
 have B1 : Hid _ := h0.2
 have B2 : Hid _ := h1.2
 have Hsh : Hid (∀ w, Calls Tryz.prog 161 #[.int .i64 21] w fun e w' => e = .returned (.int .i64 6) ∧ w' = w) := shapeOf_any 21
 have Hfit : Hid _ := hfit
 clear hfit hr hok hn h0 h1 ta tb
 have i0 : ∀ w : World, (Instr.index 164 (arr3 a b c) (.int .i64 0)).run Tryz.prog w = .ok (.int .i64 a) w := fun _ => by kernel_rfl
 have i1 : ∀ w : World, (Instr.index 164 (arr3 a b c) (.int .i64 1)).run Tryz.prog w = .ok (.int .i64 b) w := fun _ => by kernel_rfl
 have i2 : ∀ w : World, (Instr.index 164 (arr3 a b c) (.int .i64 2)).run Tryz.prog w = .ok (.int .i64 c) w := fun _ => by kernel_rfl
 go_enter Tryz.func185, Tryz.ntmps185
 go_wp2_with fail
 refine (fit_any _ _ _ _ _ _ _).mono ?_
 rintro e w1 ⟨rfl, hb1⟩
 rw [Hfit.out]
 obtain ⟨c0, c1, c2, hbw⟩ := box3 hb1
 clear hb1
 go_wp2_with (first | (go_at_call 133; refine (isWord_any _ _ (by omega) _).mono ?_; rintro e w' ⟨rfl, rfl⟩) | (go_at_call 161; refine (Hsh.out _).mono ?_; rintro e w' ⟨rfl, rfl⟩) | (go_at_call 208; refine (within_any _ _ (by omega) _).mono ?_; rintro e w' ⟨rfl, rfl⟩))
 refine wp_loop_rounds 4 ?_
 rw [rounds_succ]
 go_wp2_with (first | (go_at_call 133; refine (isWord_any _ _ (by omega) _).mono ?_; rintro e w' ⟨rfl, rfl⟩) | (go_at_call 161; refine (Hsh.out _).mono ?_; rintro e w' ⟨rfl, rfl⟩) | (go_at_call 208; refine (within_any _ _ (by omega) _).mono ?_; rintro e w' ⟨rfl, rfl⟩))
 rw [rounds_succ]
 go_wp2_with (first | (go_at_call 133; refine (isWord_any _ _ (by omega) _).mono ?_; rintro e w' ⟨rfl, rfl⟩) | (go_at_call 161; refine (Hsh.out _).mono ?_; rintro e w' ⟨rfl, rfl⟩) | (go_at_call 208; refine (within_any _ _ (by omega) _).mono ?_; rintro e w' ⟨rfl, rfl⟩))
 rw [rounds_succ]
 go_wp2_with (first | (go_at_call 133; refine (isWord_any _ _ (by omega) _).mono ?_; rintro e w' ⟨rfl, rfl⟩) | (go_at_call 161; refine (Hsh.out _).mono ?_; rintro e w' ⟨rfl, rfl⟩) | (go_at_call 208; refine (within_any _ _ (by omega) _).mono ?_; rintro e w' ⟨rfl, rfl⟩))
 rw [rounds_succ]
 go_wp2_with (first | (go_at_call 133; refine (isWord_any _ _ (by omega) _).mono ?_; rintro e w' ⟨rfl, rfl⟩) | (go_at_call 161; refine (Hsh.out _).mono ?_; rintro e w' ⟨rfl, rfl⟩) | (go_at_call 208; refine (within_any _ _ (by omega) _).mono ?_; rintro e w' ⟨rfl, rfl⟩))
 go_ret2
 exact ⟨ret2 (rfl), by repeat (first | exact hbw | refine bal ?_ _)⟩
set_option maxRecDepth 100000 in
set_option maxHeartbeats 2000000 in
theorem apply_22 (v a b c n wa wb wc : Int) (hfit : fitE 22 v n wa wb wc = 0) (ha : isW a wa = true) (hb : isW b wb = true) (hc : isW c wc = true) (w : World) :
   Calls Tryz.prog 185 #[.int .i64 22, .int .i64 v, .int .i64 a, .int .i64 b, .int .i64 c, .int .i64 n, arr3 wa wb wc] w fun e w' => e = .returned (.tuple #[.int .i64 (madeE 22 v a b c n wa wb), .int .i64 0]) ∧ Below w.heap.size w w' := by
 obtain ⟨hv, hr, hok, hn, _⟩ := fit_zero hfit
 obtain ⟨ba, bb, bc⟩ := rng_bd hr
 have hr1 : 1 ≤ wa := by
   simp [rngOk, takes, btw] at hr
   omega
 have h0 := isW_iff.1 ha
 have h1 := isW_iff.1 hb
 have ta := (two_bd ba).2
 have tb := (two_bd bb).2
 have g0 : 0 ≤ a ∧ a < 256 := by omega
 have g1 : 0 ≤ b ∧ b < 256 := by omega
 simp only [okOf] at hok
 have hle : wa ≤ v := by simpa using hok
 have B1 : Hid _ := h0.2
 have B2 : Hid _ := h1.2
 have Hsh : Hid (∀ w, Calls Tryz.prog 161 #[.int .i64 22] w fun e w' => e = .returned (.int .i64 7) ∧ w' = w) := shapeOf_any 22
 have Hfit : Hid _ := hfit
 clear hfit hr hok hn h0 h1 ta tb
 have i0 : ∀ w : World, (Instr.index 164 (arr3 a b c) (.int .i64 0)).run Tryz.prog w = .ok (.int .i64 a) w := fun _ => by kernel_rfl
 have i1 : ∀ w : World, (Instr.index 164 (arr3 a b c) (.int .i64 1)).run Tryz.prog w = .ok (.int .i64 b) w := fun _ => by kernel_rfl
 have i2 : ∀ w : World, (Instr.index 164 (arr3 a b c) (.int .i64 2)).run Tryz.prog w = .ok (.int .i64 c) w := fun _ => by kernel_rfl
 go_enter Tryz.func185, Tryz.ntmps185
 go_wp2_with fail
 refine (fit_any _ _ _ _ _ _ _).mono ?_
 rintro e w1 ⟨rfl, hb1⟩
 rw [Hfit.out]
 obtain ⟨c0, c1, c2, hbw⟩ := box3 hb1
 clear hb1
 go_wp2_with (first | (go_at_call 133; refine (isWord_any _ _ (by omega) _).mono ?_; rintro e w' ⟨rfl, rfl⟩) | (go_at_call 161; refine (Hsh.out _).mono ?_; rintro e w' ⟨rfl, rfl⟩) | (go_at_call 209; refine (wide_22 _ _ _ _).mono ?_; rintro e w' ⟨rfl, rfl⟩))
 refine wp_loop_rounds 4 ?_
 rw [rounds_succ]
 go_wp2_with (first | (go_at_call 133; refine (isWord_any _ _ (by omega) _).mono ?_; rintro e w' ⟨rfl, rfl⟩) | (go_at_call 161; refine (Hsh.out _).mono ?_; rintro e w' ⟨rfl, rfl⟩) | (go_at_call 209; refine (wide_22 _ _ _ _).mono ?_; rintro e w' ⟨rfl, rfl⟩))
 rw [rounds_succ]
 go_wp2_with (first | (go_at_call 133; refine (isWord_any _ _ (by omega) _).mono ?_; rintro e w' ⟨rfl, rfl⟩) | (go_at_call 161; refine (Hsh.out _).mono ?_; rintro e w' ⟨rfl, rfl⟩) | (go_at_call 209; refine (wide_22 _ _ _ _).mono ?_; rintro e w' ⟨rfl, rfl⟩))
 rw [rounds_succ]
 go_wp2_with (first | (go_at_call 133; refine (isWord_any _ _ (by omega) _).mono ?_; rintro e w' ⟨rfl, rfl⟩) | (go_at_call 161; refine (Hsh.out _).mono ?_; rintro e w' ⟨rfl, rfl⟩) | (go_at_call 209; refine (wide_22 _ _ _ _).mono ?_; rintro e w' ⟨rfl, rfl⟩))
 rw [rounds_succ]
 go_wp2_with (first | (go_at_call 133; refine (isWord_any _ _ (by omega) _).mono ?_; rintro e w' ⟨rfl, rfl⟩) | (go_at_call 161; refine (Hsh.out _).mono ?_; rintro e w' ⟨rfl, rfl⟩) | (go_at_call 209; refine (wide_22 _ _ _ _).mono ?_; rintro e w' ⟨rfl, rfl⟩))
 go_ret2
 exact ⟨ret2 (rfl), by repeat (first | exact hbw | refine bal ?_ _)⟩
set_option maxRecDepth 100000 in
set_option maxHeartbeats 2000000 in
theorem apply_23 (v a b c n wa wb wc : Int) (hfit : fitE 23 v n wa wb wc = 0) (ha : isW a wa = true) (hb : isW b wb = true) (hc : isW c wc = true) (w : World) :
   Calls Tryz.prog 185 #[.int .i64 23, .int .i64 v, .int .i64 a, .int .i64 b, .int .i64 c, .int .i64 n, arr3 wa wb wc] w fun e w' => e = .returned (.tuple #[.int .i64 (madeE 23 v a b c n wa wb), .int .i64 0]) ∧ Below w.heap.size w w' := by
 obtain ⟨hv, hr, hok, hn, _⟩ := fit_zero hfit
 obtain ⟨ba, bb, bc⟩ := rng_bd hr
 have hr1 : 1 ≤ wa := by
   simp [rngOk, takes, btw] at hr
   omega
 have h0 := isW_iff.1 ha
 have h1 := isW_iff.1 hb
 have ta := (two_bd ba).2
 have tb := (two_bd bb).2
 have g0 : 0 ≤ a ∧ a < 256 := by omega
 have g1 : 0 ≤ b ∧ b < 256 := by omega
 simp only [okOf] at hok
 have hle : wa ≤ v := by simpa using hok
 have B1 : Hid _ := h0.2
 have B2 : Hid _ := h1.2
 have Hsh : Hid (∀ w, Calls Tryz.prog 161 #[.int .i64 23] w fun e w' => e = .returned (.int .i64 7) ∧ w' = w) := shapeOf_any 23
 have Hfit : Hid _ := hfit
 clear hfit hr hok hn h0 h1 ta tb
 have i0 : ∀ w : World, (Instr.index 164 (arr3 a b c) (.int .i64 0)).run Tryz.prog w = .ok (.int .i64 a) w := fun _ => by kernel_rfl
 have i1 : ∀ w : World, (Instr.index 164 (arr3 a b c) (.int .i64 1)).run Tryz.prog w = .ok (.int .i64 b) w := fun _ => by kernel_rfl
 have i2 : ∀ w : World, (Instr.index 164 (arr3 a b c) (.int .i64 2)).run Tryz.prog w = .ok (.int .i64 c) w := fun _ => by kernel_rfl
 go_enter Tryz.func185, Tryz.ntmps185
 go_wp2_with fail
 refine (fit_any _ _ _ _ _ _ _).mono ?_
 rintro e w1 ⟨rfl, hb1⟩
 rw [Hfit.out]
 obtain ⟨c0, c1, c2, hbw⟩ := box3 hb1
 clear hb1
 go_wp2_with (first | (go_at_call 133; refine (isWord_any _ _ (by omega) _).mono ?_; rintro e w' ⟨rfl, rfl⟩) | (go_at_call 161; refine (Hsh.out _).mono ?_; rintro e w' ⟨rfl, rfl⟩) | (go_at_call 209; refine (wide_23 _ _ _ (by omega) (by omega) (by omega) B1.out _).mono ?_; rintro e w' ⟨rfl, rfl⟩))
 refine wp_loop_rounds 4 ?_
 rw [rounds_succ]
 go_wp2_with (first | (go_at_call 133; refine (isWord_any _ _ (by omega) _).mono ?_; rintro e w' ⟨rfl, rfl⟩) | (go_at_call 161; refine (Hsh.out _).mono ?_; rintro e w' ⟨rfl, rfl⟩) | (go_at_call 209; refine (wide_23 _ _ _ (by omega) (by omega) (by omega) B1.out _).mono ?_; rintro e w' ⟨rfl, rfl⟩))
 rw [rounds_succ]
 go_wp2_with (first | (go_at_call 133; refine (isWord_any _ _ (by omega) _).mono ?_; rintro e w' ⟨rfl, rfl⟩) | (go_at_call 161; refine (Hsh.out _).mono ?_; rintro e w' ⟨rfl, rfl⟩) | (go_at_call 209; refine (wide_23 _ _ _ (by omega) (by omega) (by omega) B1.out _).mono ?_; rintro e w' ⟨rfl, rfl⟩))
 rw [rounds_succ]
 go_wp2_with (first | (go_at_call 133; refine (isWord_any _ _ (by omega) _).mono ?_; rintro e w' ⟨rfl, rfl⟩) | (go_at_call 161; refine (Hsh.out _).mono ?_; rintro e w' ⟨rfl, rfl⟩) | (go_at_call 209; refine (wide_23 _ _ _ (by omega) (by omega) (by omega) B1.out _).mono ?_; rintro e w' ⟨rfl, rfl⟩))
 rw [rounds_succ]
 go_wp2_with (first | (go_at_call 133; refine (isWord_any _ _ (by omega) _).mono ?_; rintro e w' ⟨rfl, rfl⟩) | (go_at_call 161; refine (Hsh.out _).mono ?_; rintro e w' ⟨rfl, rfl⟩) | (go_at_call 209; refine (wide_23 _ _ _ (by omega) (by omega) (by omega) B1.out _).mono ?_; rintro e w' ⟨rfl, rfl⟩))
 go_ret2
 exact ⟨ret2 (m23 _ _ _ _ _ _ _), by repeat (first | exact hbw | refine bal ?_ _)⟩
end Go.Proofs.YtjhkecnnhddhbaaGreatDoor.Ev
