/- What Fit is held against returns the same. -/
import Derived.Test.YtfobcnhibhbbaaaWc
import Derived.Deep.Light
namespace Go.Proofs.Ytfobcnhibhbbaaa
open Go.RowKit
set_option maxRecDepth 100000

/-- Are the widths so? (the plain text's own words) -/
def okOf (k own n a b c : Int) : Bool :=
  if k = 4 ∨ k = 5 then a == own else if 6 ≤ k ∧ k ≤ 15 then a == own && b == own else if 16 ≤ k ∧ k ≤ 18 then a == b && own == 1
  else if k = 19 then a == 1 && b == own && c == own else if k = 20 then a + b == own
  else if k = 21 then decide (0 ≤ n) && decide (n ≤ 8) && decide (n + own ≤ a) else decide (a ≤ own)

def refE (k own n a b c : Int) : Int :=
  if takes k = 0 then 7 else if btw own 1 8 = false then 3 else if rngOk (takes k) a b c = false then 3
  else if okOf k own n a b c = false ∨ (k ≠ 21 ∧ n ≠ 0) then 1 else 0


set_option maxRecDepth 100000 in
set_option maxHeartbeats 4000000 in
theorem ref_4 (k own n a b c : Int) (hlo : 4 ≤ k) (hhi : k ≤ 4) (w : World) :
    Calls Try.prog 41 #[.int .i64 k, .int .i64 own, .int .i64 n, arr3 a b c] w fun e w' => e = .returned (.int .i64 (refE k own n a b c)) ∧ Below w.heap.size w w' := by
  have ht : takes k = 1 := by unfold takes; (repeat' split) <;> omega
  have hok : okOf k own n a b c = (a == own) := by
    unfold okOf
    (repeat' split) <;> first | rfl | omega
  have href : refE k own n a b c = if btw own 1 8 = false then 3 else if rngOk 1 a b c = false then 3 else if (a == own) = false ∨ (n ≠ 0) then 1 else 0 := by
    unfold refE
    rw [ht, hok]
    simp only [show ¬ (1 : Int) = 0 from by omega, if_false]
    have : k ≠ 21 := by omega
    simp [this]
  have Href : Hid _ := href
  have hw := takes_any k
  rw [ht] at hw
  have Hw : Hid _ := hw
  clear hw ht href hok
  have q6 : btw k 6 15 = false := by first | (rw [btw_true]; omega) | (rw [btw_false]; omega)
  have q16 : btw k 16 18 = false := by first | (rw [btw_true]; omega) | (rw [btw_false]; omega)
  obtain rfl : k = 4 := by omega
  by_cases hb : btw own 1 8 = true
  · have hbd := btw_bd hb
    by_cases hr : rngOk 1 a b c = true
    · obtain ⟨ba, bb, bc⟩ := rng_bd hr
      have hr2 := hr
      simp only [rngOk, Bool.and_eq_true] at hr2
      simp only [show (0:Int) < 1 from by omega, show ¬ (1:Int) < 1 from by omega, show ¬ (2:Int) < 1 from by omega, if_true, if_false, beq_iff_eq] at hr2
      obtain ⟨⟨ra, rb⟩, rc⟩ := hr2
      have Hr : Hid _ := hr
      clear hr
      go_enter Try.func41, Try.ntmps41
      go_wp2_with (first | (go_at_call 40; refine (Hw.out _).mono ?_; rintro e w' ⟨rfl, rfl⟩) | (go_at_call 21; refine (between_any _ _ _ _).mono ?_; rintro e w' ⟨rfl, rfl⟩))
      refine wp_loop_rounds 4 ?_
      rw [rounds_succ]
      go_wp2_with (first | (go_at_call 40; refine (Hw.out _).mono ?_; rintro e w' ⟨rfl, rfl⟩) | (go_at_call 21; refine (between_any _ _ _ _).mono ?_; rintro e w' ⟨rfl, rfl⟩))
      rw [rounds_succ]
      go_wp2_with (first | (go_at_call 40; refine (Hw.out _).mono ?_; rintro e w' ⟨rfl, rfl⟩) | (go_at_call 21; refine (between_any _ _ _ _).mono ?_; rintro e w' ⟨rfl, rfl⟩))
      rw [rounds_succ]
      go_wp2_with (first | (go_at_call 40; refine (Hw.out _).mono ?_; rintro e w' ⟨rfl, rfl⟩) | (go_at_call 21; refine (between_any _ _ _ _).mono ?_; rintro e w' ⟨rfl, rfl⟩))
      rw [rounds_succ]
      go_wp2_with (first | (go_at_call 40; refine (Hw.out _).mono ?_; rintro e w' ⟨rfl, rfl⟩) | (go_at_call 21; refine (between_any _ _ _ _).mono ?_; rintro e w' ⟨rfl, rfl⟩))
      all_goals
        go_ret
        refine ⟨ret_int ?_, by repeat (first | exact Below.refl _ _ | refine bal ?_ _)⟩
        go_light
        have Hr' := Hr.out
        rw [Href.out]
        clear Href
        simp_all
    · have hr' : rngOk 1 a b c = false := by simpa using hr
      have Hr : Hid _ := hr'
      clear hr hr'
      go_enter Try.func41, Try.ntmps41
      go_wp2_with (first | (go_at_call 40; refine (Hw.out _).mono ?_; rintro e w' ⟨rfl, rfl⟩) | (go_at_call 21; refine (between_any _ _ _ _).mono ?_; rintro e w' ⟨rfl, rfl⟩))
      refine wp_loop_rounds 4 ?_
      rw [rounds_succ]
      go_wp2_with (first | (go_at_call 40; refine (Hw.out _).mono ?_; rintro e w' ⟨rfl, rfl⟩) | (go_at_call 21; refine (between_any _ _ _ _).mono ?_; rintro e w' ⟨rfl, rfl⟩))
      all_goals try (rw [rounds_succ]; go_wp2_with (first | (go_at_call 40; refine (Hw.out _).mono ?_; rintro e w' ⟨rfl, rfl⟩) | (go_at_call 21; refine (between_any _ _ _ _).mono ?_; rintro e w' ⟨rfl, rfl⟩)))
      all_goals try (rw [rounds_succ]; go_wp2_with (first | (go_at_call 40; refine (Hw.out _).mono ?_; rintro e w' ⟨rfl, rfl⟩) | (go_at_call 21; refine (between_any _ _ _ _).mono ?_; rintro e w' ⟨rfl, rfl⟩)))
      all_goals try (rw [rounds_succ]; go_wp2_with (first | (go_at_call 40; refine (Hw.out _).mono ?_; rintro e w' ⟨rfl, rfl⟩) | (go_at_call 21; refine (between_any _ _ _ _).mono ?_; rintro e w' ⟨rfl, rfl⟩)))
      all_goals
        go_ret
        refine ⟨ret_int ?_, by repeat (first | exact Below.refl _ _ | refine bal ?_ _)⟩
        go_light
        first
          | (rw [Href.out, if_neg (by simp [hb]), if_pos Hr.out]; done)
          | (exfalso; have Hr' := Hr.out; simp only [rngOk] at Hr'; clear Href Hr; simp_all; done)
  · have hb' : btw own 1 8 = false := by simpa using hb
    clear hb
    go_enter Try.func41, Try.ntmps41
    go_wp2_with (first | (go_at_call 40; refine (Hw.out _).mono ?_; rintro e w' ⟨rfl, rfl⟩) | (go_at_call 21; refine (between_any _ _ _ _).mono ?_; rintro e w' ⟨rfl, rfl⟩))
    go_ret
    exact ⟨ret_int (by rw [Href.out, if_pos hb']), by repeat (first | exact Below.refl _ _ | refine bal ?_ _)⟩

set_option maxRecDepth 100000 in
set_option maxHeartbeats 4000000 in
theorem ref_5 (k own n a b c : Int) (hlo : 5 ≤ k) (hhi : k ≤ 5) (w : World) :
    Calls Try.prog 41 #[.int .i64 k, .int .i64 own, .int .i64 n, arr3 a b c] w fun e w' => e = .returned (.int .i64 (refE k own n a b c)) ∧ Below w.heap.size w w' := by
  have ht : takes k = 1 := by unfold takes; (repeat' split) <;> omega
  have hok : okOf k own n a b c = (a == own) := by
    unfold okOf
    (repeat' split) <;> first | rfl | omega
  have href : refE k own n a b c = if btw own 1 8 = false then 3 else if rngOk 1 a b c = false then 3 else if (a == own) = false ∨ (n ≠ 0) then 1 else 0 := by
    unfold refE
    rw [ht, hok]
    simp only [show ¬ (1 : Int) = 0 from by omega, if_false]
    have : k ≠ 21 := by omega
    simp [this]
  have Href : Hid _ := href
  have hw := takes_any k
  rw [ht] at hw
  have Hw : Hid _ := hw
  clear hw ht href hok
  have q6 : btw k 6 15 = false := by first | (rw [btw_true]; omega) | (rw [btw_false]; omega)
  have q16 : btw k 16 18 = false := by first | (rw [btw_true]; omega) | (rw [btw_false]; omega)
  obtain rfl : k = 5 := by omega
  by_cases hb : btw own 1 8 = true
  · have hbd := btw_bd hb
    by_cases hr : rngOk 1 a b c = true
    · obtain ⟨ba, bb, bc⟩ := rng_bd hr
      have hr2 := hr
      simp only [rngOk, Bool.and_eq_true] at hr2
      simp only [show (0:Int) < 1 from by omega, show ¬ (1:Int) < 1 from by omega, show ¬ (2:Int) < 1 from by omega, if_true, if_false, beq_iff_eq] at hr2
      obtain ⟨⟨ra, rb⟩, rc⟩ := hr2
      have Hr : Hid _ := hr
      clear hr
      go_enter Try.func41, Try.ntmps41
      go_wp2_with (first | (go_at_call 40; refine (Hw.out _).mono ?_; rintro e w' ⟨rfl, rfl⟩) | (go_at_call 21; refine (between_any _ _ _ _).mono ?_; rintro e w' ⟨rfl, rfl⟩))
      refine wp_loop_rounds 4 ?_
      rw [rounds_succ]
      go_wp2_with (first | (go_at_call 40; refine (Hw.out _).mono ?_; rintro e w' ⟨rfl, rfl⟩) | (go_at_call 21; refine (between_any _ _ _ _).mono ?_; rintro e w' ⟨rfl, rfl⟩))
      rw [rounds_succ]
      go_wp2_with (first | (go_at_call 40; refine (Hw.out _).mono ?_; rintro e w' ⟨rfl, rfl⟩) | (go_at_call 21; refine (between_any _ _ _ _).mono ?_; rintro e w' ⟨rfl, rfl⟩))
      rw [rounds_succ]
      go_wp2_with (first | (go_at_call 40; refine (Hw.out _).mono ?_; rintro e w' ⟨rfl, rfl⟩) | (go_at_call 21; refine (between_any _ _ _ _).mono ?_; rintro e w' ⟨rfl, rfl⟩))
      rw [rounds_succ]
      go_wp2_with (first | (go_at_call 40; refine (Hw.out _).mono ?_; rintro e w' ⟨rfl, rfl⟩) | (go_at_call 21; refine (between_any _ _ _ _).mono ?_; rintro e w' ⟨rfl, rfl⟩))
      all_goals
        go_ret
        refine ⟨ret_int ?_, by repeat (first | exact Below.refl _ _ | refine bal ?_ _)⟩
        go_light
        have Hr' := Hr.out
        rw [Href.out]
        clear Href
        simp_all
    · have hr' : rngOk 1 a b c = false := by simpa using hr
      have Hr : Hid _ := hr'
      clear hr hr'
      go_enter Try.func41, Try.ntmps41
      go_wp2_with (first | (go_at_call 40; refine (Hw.out _).mono ?_; rintro e w' ⟨rfl, rfl⟩) | (go_at_call 21; refine (between_any _ _ _ _).mono ?_; rintro e w' ⟨rfl, rfl⟩))
      refine wp_loop_rounds 4 ?_
      rw [rounds_succ]
      go_wp2_with (first | (go_at_call 40; refine (Hw.out _).mono ?_; rintro e w' ⟨rfl, rfl⟩) | (go_at_call 21; refine (between_any _ _ _ _).mono ?_; rintro e w' ⟨rfl, rfl⟩))
      all_goals try (rw [rounds_succ]; go_wp2_with (first | (go_at_call 40; refine (Hw.out _).mono ?_; rintro e w' ⟨rfl, rfl⟩) | (go_at_call 21; refine (between_any _ _ _ _).mono ?_; rintro e w' ⟨rfl, rfl⟩)))
      all_goals try (rw [rounds_succ]; go_wp2_with (first | (go_at_call 40; refine (Hw.out _).mono ?_; rintro e w' ⟨rfl, rfl⟩) | (go_at_call 21; refine (between_any _ _ _ _).mono ?_; rintro e w' ⟨rfl, rfl⟩)))
      all_goals try (rw [rounds_succ]; go_wp2_with (first | (go_at_call 40; refine (Hw.out _).mono ?_; rintro e w' ⟨rfl, rfl⟩) | (go_at_call 21; refine (between_any _ _ _ _).mono ?_; rintro e w' ⟨rfl, rfl⟩)))
      all_goals
        go_ret
        refine ⟨ret_int ?_, by repeat (first | exact Below.refl _ _ | refine bal ?_ _)⟩
        go_light
        first
          | (rw [Href.out, if_neg (by simp [hb]), if_pos Hr.out]; done)
          | (exfalso; have Hr' := Hr.out; simp only [rngOk] at Hr'; clear Href Hr; simp_all; done)
  · have hb' : btw own 1 8 = false := by simpa using hb
    clear hb
    go_enter Try.func41, Try.ntmps41
    go_wp2_with (first | (go_at_call 40; refine (Hw.out _).mono ?_; rintro e w' ⟨rfl, rfl⟩) | (go_at_call 21; refine (between_any _ _ _ _).mono ?_; rintro e w' ⟨rfl, rfl⟩))
    go_ret
    exact ⟨ret_int (by rw [Href.out, if_pos hb']), by repeat (first | exact Below.refl _ _ | refine bal ?_ _)⟩

set_option maxRecDepth 100000 in
set_option maxHeartbeats 4000000 in
theorem ref_6 (k own n a b c : Int) (hlo : 6 ≤ k) (hhi : k ≤ 15) (w : World) :
    Calls Try.prog 41 #[.int .i64 k, .int .i64 own, .int .i64 n, arr3 a b c] w fun e w' => e = .returned (.int .i64 (refE k own n a b c)) ∧ Below w.heap.size w w' := by
  have ht : takes k = 2 := by unfold takes; (repeat' split) <;> omega
  have hok : okOf k own n a b c = (a == own && b == own) := by
    unfold okOf
    (repeat' split) <;> first | rfl | omega
  have href : refE k own n a b c = if btw own 1 8 = false then 3 else if rngOk 2 a b c = false then 3 else if (a == own && b == own) = false ∨ (n ≠ 0) then 1 else 0 := by
    unfold refE
    rw [ht, hok]
    simp only [show ¬ (2 : Int) = 0 from by omega, if_false]
    have : k ≠ 21 := by omega
    simp [this]
  have Href : Hid _ := href
  have hw := takes_any k
  rw [ht] at hw
  have Hw : Hid _ := hw
  clear hw ht href hok
  have q6 : btw k 6 15 = true := by first | (rw [btw_true]; omega) | (rw [btw_false]; omega)
  have q16 : btw k 16 18 = false := by first | (rw [btw_true]; omega) | (rw [btw_false]; omega)
  have e4 : (k == 4) = false := by rw [beq_eq_false_iff_ne]; omega
  have e5 : (k == 5) = false := by rw [beq_eq_false_iff_ne]; omega
  have e19 : (k == 19) = false := by rw [beq_eq_false_iff_ne]; omega
  have e20 : (k == 20) = false := by rw [beq_eq_false_iff_ne]; omega
  have e21 : (k == 21) = false := by rw [beq_eq_false_iff_ne]; omega
  have n21 : (k != 21) = true := by rw [bne_iff_ne]; omega

  by_cases hb : btw own 1 8 = true
  · have hbd := btw_bd hb
    by_cases hr : rngOk 2 a b c = true
    · obtain ⟨ba, bb, bc⟩ := rng_bd hr
      have hr2 := hr
      simp only [rngOk, Bool.and_eq_true] at hr2
      simp only [show (0:Int) < 2 from by omega, show (1:Int) < 2 from by omega, show ¬ (2:Int) < 2 from by omega, if_true, if_false, beq_iff_eq] at hr2
      obtain ⟨⟨ra, rb⟩, rc⟩ := hr2
      have Hr : Hid _ := hr
      clear hr
      go_enter Try.func41, Try.ntmps41
      go_wp2_with (first | (go_at_call 40; refine (Hw.out _).mono ?_; rintro e w' ⟨rfl, rfl⟩) | (go_at_call 21; refine (between_any _ _ _ _).mono ?_; rintro e w' ⟨rfl, rfl⟩))
      refine wp_loop_rounds 4 ?_
      rw [rounds_succ]
      go_wp2_with (first | (go_at_call 40; refine (Hw.out _).mono ?_; rintro e w' ⟨rfl, rfl⟩) | (go_at_call 21; refine (between_any _ _ _ _).mono ?_; rintro e w' ⟨rfl, rfl⟩))
      rw [rounds_succ]
      go_wp2_with (first | (go_at_call 40; refine (Hw.out _).mono ?_; rintro e w' ⟨rfl, rfl⟩) | (go_at_call 21; refine (between_any _ _ _ _).mono ?_; rintro e w' ⟨rfl, rfl⟩))
      rw [rounds_succ]
      go_wp2_with (first | (go_at_call 40; refine (Hw.out _).mono ?_; rintro e w' ⟨rfl, rfl⟩) | (go_at_call 21; refine (between_any _ _ _ _).mono ?_; rintro e w' ⟨rfl, rfl⟩))
      rw [rounds_succ]
      go_wp2_with (first | (go_at_call 40; refine (Hw.out _).mono ?_; rintro e w' ⟨rfl, rfl⟩) | (go_at_call 21; refine (between_any _ _ _ _).mono ?_; rintro e w' ⟨rfl, rfl⟩))
      all_goals
        go_ret
        refine ⟨ret_int ?_, by repeat (first | exact Below.refl _ _ | refine bal ?_ _)⟩
        go_light
        have Hr' := Hr.out
        rw [Href.out]
        clear Href
        simp_all
    · have hr' : rngOk 2 a b c = false := by simpa using hr
      have Hr : Hid _ := hr'
      clear hr hr'
      go_enter Try.func41, Try.ntmps41
      go_wp2_with (first | (go_at_call 40; refine (Hw.out _).mono ?_; rintro e w' ⟨rfl, rfl⟩) | (go_at_call 21; refine (between_any _ _ _ _).mono ?_; rintro e w' ⟨rfl, rfl⟩))
      refine wp_loop_rounds 4 ?_
      rw [rounds_succ]
      go_wp2_with (first | (go_at_call 40; refine (Hw.out _).mono ?_; rintro e w' ⟨rfl, rfl⟩) | (go_at_call 21; refine (between_any _ _ _ _).mono ?_; rintro e w' ⟨rfl, rfl⟩))
      all_goals try (rw [rounds_succ]; go_wp2_with (first | (go_at_call 40; refine (Hw.out _).mono ?_; rintro e w' ⟨rfl, rfl⟩) | (go_at_call 21; refine (between_any _ _ _ _).mono ?_; rintro e w' ⟨rfl, rfl⟩)))
      all_goals try (rw [rounds_succ]; go_wp2_with (first | (go_at_call 40; refine (Hw.out _).mono ?_; rintro e w' ⟨rfl, rfl⟩) | (go_at_call 21; refine (between_any _ _ _ _).mono ?_; rintro e w' ⟨rfl, rfl⟩)))
      all_goals try (rw [rounds_succ]; go_wp2_with (first | (go_at_call 40; refine (Hw.out _).mono ?_; rintro e w' ⟨rfl, rfl⟩) | (go_at_call 21; refine (between_any _ _ _ _).mono ?_; rintro e w' ⟨rfl, rfl⟩)))
      all_goals
        go_ret
        refine ⟨ret_int ?_, by repeat (first | exact Below.refl _ _ | refine bal ?_ _)⟩
        go_light
        first
          | (rw [Href.out, if_neg (by simp [hb]), if_pos Hr.out]; done)
          | (exfalso; have Hr' := Hr.out; simp only [rngOk] at Hr'; clear Href Hr; simp_all; done)
  · have hb' : btw own 1 8 = false := by simpa using hb
    clear hb
    go_enter Try.func41, Try.ntmps41
    go_wp2_with (first | (go_at_call 40; refine (Hw.out _).mono ?_; rintro e w' ⟨rfl, rfl⟩) | (go_at_call 21; refine (between_any _ _ _ _).mono ?_; rintro e w' ⟨rfl, rfl⟩))
    go_ret
    exact ⟨ret_int (by rw [Href.out, if_pos hb']), by repeat (first | exact Below.refl _ _ | refine bal ?_ _)⟩

set_option maxRecDepth 100000 in
set_option maxHeartbeats 4000000 in
theorem ref_16 (k own n a b c : Int) (hlo : 16 ≤ k) (hhi : k ≤ 18) (w : World) :
    Calls Try.prog 41 #[.int .i64 k, .int .i64 own, .int .i64 n, arr3 a b c] w fun e w' => e = .returned (.int .i64 (refE k own n a b c)) ∧ Below w.heap.size w w' := by
  have ht : takes k = 2 := by unfold takes; (repeat' split) <;> omega
  have hok : okOf k own n a b c = (a == b && own == 1) := by
    unfold okOf
    (repeat' split) <;> first | rfl | omega
  have href : refE k own n a b c = if btw own 1 8 = false then 3 else if rngOk 2 a b c = false then 3 else if (a == b && own == 1) = false ∨ (n ≠ 0) then 1 else 0 := by
    unfold refE
    rw [ht, hok]
    simp only [show ¬ (2 : Int) = 0 from by omega, if_false]
    have : k ≠ 21 := by omega
    simp [this]
  have Href : Hid _ := href
  have hw := takes_any k
  rw [ht] at hw
  have Hw : Hid _ := hw
  clear hw ht href hok
  have q6 : btw k 6 15 = false := by first | (rw [btw_true]; omega) | (rw [btw_false]; omega)
  have q16 : btw k 16 18 = true := by first | (rw [btw_true]; omega) | (rw [btw_false]; omega)
  have e4 : (k == 4) = false := by rw [beq_eq_false_iff_ne]; omega
  have e5 : (k == 5) = false := by rw [beq_eq_false_iff_ne]; omega
  have e19 : (k == 19) = false := by rw [beq_eq_false_iff_ne]; omega
  have e20 : (k == 20) = false := by rw [beq_eq_false_iff_ne]; omega
  have e21 : (k == 21) = false := by rw [beq_eq_false_iff_ne]; omega
  have n21 : (k != 21) = true := by rw [bne_iff_ne]; omega

  by_cases hb : btw own 1 8 = true
  · have hbd := btw_bd hb
    by_cases hr : rngOk 2 a b c = true
    · obtain ⟨ba, bb, bc⟩ := rng_bd hr
      have hr2 := hr
      simp only [rngOk, Bool.and_eq_true] at hr2
      simp only [show (0:Int) < 2 from by omega, show (1:Int) < 2 from by omega, show ¬ (2:Int) < 2 from by omega, if_true, if_false, beq_iff_eq] at hr2
      obtain ⟨⟨ra, rb⟩, rc⟩ := hr2
      have Hr : Hid _ := hr
      clear hr
      go_enter Try.func41, Try.ntmps41
      go_wp2_with (first | (go_at_call 40; refine (Hw.out _).mono ?_; rintro e w' ⟨rfl, rfl⟩) | (go_at_call 21; refine (between_any _ _ _ _).mono ?_; rintro e w' ⟨rfl, rfl⟩))
      refine wp_loop_rounds 4 ?_
      rw [rounds_succ]
      go_wp2_with (first | (go_at_call 40; refine (Hw.out _).mono ?_; rintro e w' ⟨rfl, rfl⟩) | (go_at_call 21; refine (between_any _ _ _ _).mono ?_; rintro e w' ⟨rfl, rfl⟩))
      rw [rounds_succ]
      go_wp2_with (first | (go_at_call 40; refine (Hw.out _).mono ?_; rintro e w' ⟨rfl, rfl⟩) | (go_at_call 21; refine (between_any _ _ _ _).mono ?_; rintro e w' ⟨rfl, rfl⟩))
      rw [rounds_succ]
      go_wp2_with (first | (go_at_call 40; refine (Hw.out _).mono ?_; rintro e w' ⟨rfl, rfl⟩) | (go_at_call 21; refine (between_any _ _ _ _).mono ?_; rintro e w' ⟨rfl, rfl⟩))
      rw [rounds_succ]
      go_wp2_with (first | (go_at_call 40; refine (Hw.out _).mono ?_; rintro e w' ⟨rfl, rfl⟩) | (go_at_call 21; refine (between_any _ _ _ _).mono ?_; rintro e w' ⟨rfl, rfl⟩))
      all_goals
        go_ret
        refine ⟨ret_int ?_, by repeat (first | exact Below.refl _ _ | refine bal ?_ _)⟩
        go_light
        have Hr' := Hr.out
        rw [Href.out]
        clear Href
        simp_all
    · have hr' : rngOk 2 a b c = false := by simpa using hr
      have Hr : Hid _ := hr'
      clear hr hr'
      go_enter Try.func41, Try.ntmps41
      go_wp2_with (first | (go_at_call 40; refine (Hw.out _).mono ?_; rintro e w' ⟨rfl, rfl⟩) | (go_at_call 21; refine (between_any _ _ _ _).mono ?_; rintro e w' ⟨rfl, rfl⟩))
      refine wp_loop_rounds 4 ?_
      rw [rounds_succ]
      go_wp2_with (first | (go_at_call 40; refine (Hw.out _).mono ?_; rintro e w' ⟨rfl, rfl⟩) | (go_at_call 21; refine (between_any _ _ _ _).mono ?_; rintro e w' ⟨rfl, rfl⟩))
      all_goals try (rw [rounds_succ]; go_wp2_with (first | (go_at_call 40; refine (Hw.out _).mono ?_; rintro e w' ⟨rfl, rfl⟩) | (go_at_call 21; refine (between_any _ _ _ _).mono ?_; rintro e w' ⟨rfl, rfl⟩)))
      all_goals try (rw [rounds_succ]; go_wp2_with (first | (go_at_call 40; refine (Hw.out _).mono ?_; rintro e w' ⟨rfl, rfl⟩) | (go_at_call 21; refine (between_any _ _ _ _).mono ?_; rintro e w' ⟨rfl, rfl⟩)))
      all_goals try (rw [rounds_succ]; go_wp2_with (first | (go_at_call 40; refine (Hw.out _).mono ?_; rintro e w' ⟨rfl, rfl⟩) | (go_at_call 21; refine (between_any _ _ _ _).mono ?_; rintro e w' ⟨rfl, rfl⟩)))
      all_goals
        go_ret
        refine ⟨ret_int ?_, by repeat (first | exact Below.refl _ _ | refine bal ?_ _)⟩
        go_light
        first
          | (rw [Href.out, if_neg (by simp [hb]), if_pos Hr.out]; done)
          | (exfalso; have Hr' := Hr.out; simp only [rngOk] at Hr'; clear Href Hr; simp_all; done)
  · have hb' : btw own 1 8 = false := by simpa using hb
    clear hb
    go_enter Try.func41, Try.ntmps41
    go_wp2_with (first | (go_at_call 40; refine (Hw.out _).mono ?_; rintro e w' ⟨rfl, rfl⟩) | (go_at_call 21; refine (between_any _ _ _ _).mono ?_; rintro e w' ⟨rfl, rfl⟩))
    go_ret
    exact ⟨ret_int (by rw [Href.out, if_pos hb']), by repeat (first | exact Below.refl _ _ | refine bal ?_ _)⟩

set_option maxRecDepth 100000 in
set_option maxHeartbeats 4000000 in
theorem ref_19 (k own n a b c : Int) (hlo : 19 ≤ k) (hhi : k ≤ 19) (w : World) :
    Calls Try.prog 41 #[.int .i64 k, .int .i64 own, .int .i64 n, arr3 a b c] w fun e w' => e = .returned (.int .i64 (refE k own n a b c)) ∧ Below w.heap.size w w' := by
  have ht : takes k = 3 := by unfold takes; (repeat' split) <;> omega
  have hok : okOf k own n a b c = (a == 1 && b == own && c == own) := by
    unfold okOf
    (repeat' split) <;> first | rfl | omega
  have href : refE k own n a b c = if btw own 1 8 = false then 3 else if rngOk 3 a b c = false then 3 else if (a == 1 && b == own && c == own) = false ∨ (n ≠ 0) then 1 else 0 := by
    unfold refE
    rw [ht, hok]
    simp only [show ¬ (3 : Int) = 0 from by omega, if_false]
    have : k ≠ 21 := by omega
    simp [this]
  have Href : Hid _ := href
  have hw := takes_any k
  rw [ht] at hw
  have Hw : Hid _ := hw
  clear hw ht href hok
  have q6 : btw k 6 15 = false := by first | (rw [btw_true]; omega) | (rw [btw_false]; omega)
  have q16 : btw k 16 18 = false := by first | (rw [btw_true]; omega) | (rw [btw_false]; omega)
  obtain rfl : k = 19 := by omega
  by_cases hb : btw own 1 8 = true
  · have hbd := btw_bd hb
    by_cases hr : rngOk 3 a b c = true
    · obtain ⟨ba, bb, bc⟩ := rng_bd hr
      have hr2 := hr
      simp only [rngOk, Bool.and_eq_true] at hr2
      simp only [show (0:Int) < 3 from by omega, show (1:Int) < 3 from by omega, show (2:Int) < 3 from by omega, if_true] at hr2
      obtain ⟨⟨ra, rb⟩, rc⟩ := hr2
      have Hr : Hid _ := hr
      clear hr
      go_enter Try.func41, Try.ntmps41
      go_wp2_with (first | (go_at_call 40; refine (Hw.out _).mono ?_; rintro e w' ⟨rfl, rfl⟩) | (go_at_call 21; refine (between_any _ _ _ _).mono ?_; rintro e w' ⟨rfl, rfl⟩))
      refine wp_loop_rounds 4 ?_
      rw [rounds_succ]
      go_wp2_with (first | (go_at_call 40; refine (Hw.out _).mono ?_; rintro e w' ⟨rfl, rfl⟩) | (go_at_call 21; refine (between_any _ _ _ _).mono ?_; rintro e w' ⟨rfl, rfl⟩))
      rw [rounds_succ]
      go_wp2_with (first | (go_at_call 40; refine (Hw.out _).mono ?_; rintro e w' ⟨rfl, rfl⟩) | (go_at_call 21; refine (between_any _ _ _ _).mono ?_; rintro e w' ⟨rfl, rfl⟩))
      rw [rounds_succ]
      go_wp2_with (first | (go_at_call 40; refine (Hw.out _).mono ?_; rintro e w' ⟨rfl, rfl⟩) | (go_at_call 21; refine (between_any _ _ _ _).mono ?_; rintro e w' ⟨rfl, rfl⟩))
      rw [rounds_succ]
      go_wp2_with (first | (go_at_call 40; refine (Hw.out _).mono ?_; rintro e w' ⟨rfl, rfl⟩) | (go_at_call 21; refine (between_any _ _ _ _).mono ?_; rintro e w' ⟨rfl, rfl⟩))
      all_goals
        go_ret
        refine ⟨ret_int ?_, by repeat (first | exact Below.refl _ _ | refine bal ?_ _)⟩
        go_light
        have Hr' := Hr.out
        rw [Href.out]
        clear Href
        simp_all
    · have hr' : rngOk 3 a b c = false := by simpa using hr
      have Hr : Hid _ := hr'
      clear hr hr'
      go_enter Try.func41, Try.ntmps41
      go_wp2_with (first | (go_at_call 40; refine (Hw.out _).mono ?_; rintro e w' ⟨rfl, rfl⟩) | (go_at_call 21; refine (between_any _ _ _ _).mono ?_; rintro e w' ⟨rfl, rfl⟩))
      refine wp_loop_rounds 4 ?_
      rw [rounds_succ]
      go_wp2_with (first | (go_at_call 40; refine (Hw.out _).mono ?_; rintro e w' ⟨rfl, rfl⟩) | (go_at_call 21; refine (between_any _ _ _ _).mono ?_; rintro e w' ⟨rfl, rfl⟩))
      all_goals try (rw [rounds_succ]; go_wp2_with (first | (go_at_call 40; refine (Hw.out _).mono ?_; rintro e w' ⟨rfl, rfl⟩) | (go_at_call 21; refine (between_any _ _ _ _).mono ?_; rintro e w' ⟨rfl, rfl⟩)))
      all_goals try (rw [rounds_succ]; go_wp2_with (first | (go_at_call 40; refine (Hw.out _).mono ?_; rintro e w' ⟨rfl, rfl⟩) | (go_at_call 21; refine (between_any _ _ _ _).mono ?_; rintro e w' ⟨rfl, rfl⟩)))
      all_goals try (rw [rounds_succ]; go_wp2_with (first | (go_at_call 40; refine (Hw.out _).mono ?_; rintro e w' ⟨rfl, rfl⟩) | (go_at_call 21; refine (between_any _ _ _ _).mono ?_; rintro e w' ⟨rfl, rfl⟩)))
      all_goals
        go_ret
        refine ⟨ret_int ?_, by repeat (first | exact Below.refl _ _ | refine bal ?_ _)⟩
        go_light
        first
          | (rw [Href.out, if_neg (by simp [hb]), if_pos Hr.out]; done)
          | (exfalso; have Hr' := Hr.out; simp only [rngOk] at Hr'; clear Href Hr; simp_all; done)
  · have hb' : btw own 1 8 = false := by simpa using hb
    clear hb
    go_enter Try.func41, Try.ntmps41
    go_wp2_with (first | (go_at_call 40; refine (Hw.out _).mono ?_; rintro e w' ⟨rfl, rfl⟩) | (go_at_call 21; refine (between_any _ _ _ _).mono ?_; rintro e w' ⟨rfl, rfl⟩))
    go_ret
    exact ⟨ret_int (by rw [Href.out, if_pos hb']), by repeat (first | exact Below.refl _ _ | refine bal ?_ _)⟩

set_option maxRecDepth 100000 in
set_option maxHeartbeats 4000000 in
theorem ref_20 (k own n a b c : Int) (hlo : 20 ≤ k) (hhi : k ≤ 20) (w : World) :
    Calls Try.prog 41 #[.int .i64 k, .int .i64 own, .int .i64 n, arr3 a b c] w fun e w' => e = .returned (.int .i64 (refE k own n a b c)) ∧ Below w.heap.size w w' := by
  have ht : takes k = 2 := by unfold takes; (repeat' split) <;> omega
  have hok : okOf k own n a b c = (a + b == own) := by
    unfold okOf
    (repeat' split) <;> first | rfl | omega
  have href : refE k own n a b c = if btw own 1 8 = false then 3 else if rngOk 2 a b c = false then 3 else if (a + b == own) = false ∨ (n ≠ 0) then 1 else 0 := by
    unfold refE
    rw [ht, hok]
    simp only [show ¬ (2 : Int) = 0 from by omega, if_false]
    have : k ≠ 21 := by omega
    simp [this]
  have Href : Hid _ := href
  have hw := takes_any k
  rw [ht] at hw
  have Hw : Hid _ := hw
  clear hw ht href hok
  have q6 : btw k 6 15 = false := by first | (rw [btw_true]; omega) | (rw [btw_false]; omega)
  have q16 : btw k 16 18 = false := by first | (rw [btw_true]; omega) | (rw [btw_false]; omega)
  obtain rfl : k = 20 := by omega
  by_cases hb : btw own 1 8 = true
  · have hbd := btw_bd hb
    by_cases hr : rngOk 2 a b c = true
    · obtain ⟨ba, bb, bc⟩ := rng_bd hr
      have hr2 := hr
      simp only [rngOk, Bool.and_eq_true] at hr2
      simp only [show (0:Int) < 2 from by omega, show (1:Int) < 2 from by omega, show ¬ (2:Int) < 2 from by omega, if_true, if_false, beq_iff_eq] at hr2
      obtain ⟨⟨ra, rb⟩, rc⟩ := hr2
      have Hr : Hid _ := hr
      clear hr
      go_enter Try.func41, Try.ntmps41
      go_wp2_with (first | (go_at_call 40; refine (Hw.out _).mono ?_; rintro e w' ⟨rfl, rfl⟩) | (go_at_call 21; refine (between_any _ _ _ _).mono ?_; rintro e w' ⟨rfl, rfl⟩))
      refine wp_loop_rounds 4 ?_
      rw [rounds_succ]
      go_wp2_with (first | (go_at_call 40; refine (Hw.out _).mono ?_; rintro e w' ⟨rfl, rfl⟩) | (go_at_call 21; refine (between_any _ _ _ _).mono ?_; rintro e w' ⟨rfl, rfl⟩))
      rw [rounds_succ]
      go_wp2_with (first | (go_at_call 40; refine (Hw.out _).mono ?_; rintro e w' ⟨rfl, rfl⟩) | (go_at_call 21; refine (between_any _ _ _ _).mono ?_; rintro e w' ⟨rfl, rfl⟩))
      rw [rounds_succ]
      go_wp2_with (first | (go_at_call 40; refine (Hw.out _).mono ?_; rintro e w' ⟨rfl, rfl⟩) | (go_at_call 21; refine (between_any _ _ _ _).mono ?_; rintro e w' ⟨rfl, rfl⟩))
      rw [rounds_succ]
      go_wp2_with (first | (go_at_call 40; refine (Hw.out _).mono ?_; rintro e w' ⟨rfl, rfl⟩) | (go_at_call 21; refine (between_any _ _ _ _).mono ?_; rintro e w' ⟨rfl, rfl⟩))
      all_goals
        go_ret
        refine ⟨ret_int ?_, by repeat (first | exact Below.refl _ _ | refine bal ?_ _)⟩
        go_light
        have Hr' := Hr.out
        rw [Href.out]
        clear Href
        simp_all
    · have hr' : rngOk 2 a b c = false := by simpa using hr
      have Hr : Hid _ := hr'
      clear hr hr'
      go_enter Try.func41, Try.ntmps41
      go_wp2_with (first | (go_at_call 40; refine (Hw.out _).mono ?_; rintro e w' ⟨rfl, rfl⟩) | (go_at_call 21; refine (between_any _ _ _ _).mono ?_; rintro e w' ⟨rfl, rfl⟩))
      refine wp_loop_rounds 4 ?_
      rw [rounds_succ]
      go_wp2_with (first | (go_at_call 40; refine (Hw.out _).mono ?_; rintro e w' ⟨rfl, rfl⟩) | (go_at_call 21; refine (between_any _ _ _ _).mono ?_; rintro e w' ⟨rfl, rfl⟩))
      all_goals try (rw [rounds_succ]; go_wp2_with (first | (go_at_call 40; refine (Hw.out _).mono ?_; rintro e w' ⟨rfl, rfl⟩) | (go_at_call 21; refine (between_any _ _ _ _).mono ?_; rintro e w' ⟨rfl, rfl⟩)))
      all_goals try (rw [rounds_succ]; go_wp2_with (first | (go_at_call 40; refine (Hw.out _).mono ?_; rintro e w' ⟨rfl, rfl⟩) | (go_at_call 21; refine (between_any _ _ _ _).mono ?_; rintro e w' ⟨rfl, rfl⟩)))
      all_goals try (rw [rounds_succ]; go_wp2_with (first | (go_at_call 40; refine (Hw.out _).mono ?_; rintro e w' ⟨rfl, rfl⟩) | (go_at_call 21; refine (between_any _ _ _ _).mono ?_; rintro e w' ⟨rfl, rfl⟩)))
      all_goals
        go_ret
        refine ⟨ret_int ?_, by repeat (first | exact Below.refl _ _ | refine bal ?_ _)⟩
        go_light
        first
          | (rw [Href.out, if_neg (by simp [hb]), if_pos Hr.out]; done)
          | (exfalso; have Hr' := Hr.out; simp only [rngOk] at Hr'; clear Href Hr; simp_all; done)
  · have hb' : btw own 1 8 = false := by simpa using hb
    clear hb
    go_enter Try.func41, Try.ntmps41
    go_wp2_with (first | (go_at_call 40; refine (Hw.out _).mono ?_; rintro e w' ⟨rfl, rfl⟩) | (go_at_call 21; refine (between_any _ _ _ _).mono ?_; rintro e w' ⟨rfl, rfl⟩))
    go_ret
    exact ⟨ret_int (by rw [Href.out, if_pos hb']), by repeat (first | exact Below.refl _ _ | refine bal ?_ _)⟩

set_option maxRecDepth 100000 in
set_option maxHeartbeats 4000000 in
theorem ref_21 (k own n a b c : Int) (hlo : 21 ≤ k) (hhi : k ≤ 21) (w : World) :
    Calls Try.prog 41 #[.int .i64 k, .int .i64 own, .int .i64 n, arr3 a b c] w fun e w' => e = .returned (.int .i64 (refE k own n a b c)) ∧ Below w.heap.size w w' := by
  have ht : takes k = 1 := by unfold takes; (repeat' split) <;> omega
  have hok : okOf k own n a b c = (decide (0 ≤ n) && decide (n ≤ 8) && decide (n + own ≤ a)) := by
    unfold okOf
    (repeat' split) <;> first | rfl | omega
  have href : refE k own n a b c = if btw own 1 8 = false then 3 else if rngOk 1 a b c = false then 3 else if (decide (0 ≤ n) && decide (n ≤ 8) && decide (n + own ≤ a)) = false ∨ (False) then 1 else 0 := by
    unfold refE
    rw [ht, hok]
    simp only [show ¬ (1 : Int) = 0 from by omega, if_false]
    have : k = 21 := by omega
    simp [this]
  have Href : Hid _ := href
  have hw := takes_any k
  rw [ht] at hw
  have Hw : Hid _ := hw
  clear hw ht href hok
  have q6 : btw k 6 15 = false := by first | (rw [btw_true]; omega) | (rw [btw_false]; omega)
  have q16 : btw k 16 18 = false := by first | (rw [btw_true]; omega) | (rw [btw_false]; omega)
  obtain rfl : k = 21 := by omega
  by_cases hb : btw own 1 8 = true
  · have hbd := btw_bd hb
    by_cases hr : rngOk 1 a b c = true
    · obtain ⟨ba, bb, bc⟩ := rng_bd hr
      have hr2 := hr
      simp only [rngOk, Bool.and_eq_true] at hr2
      simp only [show (0:Int) < 1 from by omega, show ¬ (1:Int) < 1 from by omega, show ¬ (2:Int) < 1 from by omega, if_true, if_false, beq_iff_eq] at hr2
      obtain ⟨⟨ra, rb⟩, rc⟩ := hr2
      have nb : (b != 0) = false := by simp [rb]
      have nc : (c != 0) = false := by simp [rc]
      have Rb : Hid _ := rb
      have Rc : Hid _ := rc
      clear rb rc
      have Hr : Hid _ := hr
      clear hr
      go_enter Try.func41, Try.ntmps41
      go_wp2_with (first | (go_at_call 40; refine (Hw.out _).mono ?_; rintro e w' ⟨rfl, rfl⟩) | (go_at_call 21; refine (between_any _ _ _ _).mono ?_; rintro e w' ⟨rfl, rfl⟩))
      refine wp_loop_rounds 4 ?_
      rw [rounds_succ]
      go_wp2_with (first | (go_at_call 40; refine (Hw.out _).mono ?_; rintro e w' ⟨rfl, rfl⟩) | (go_at_call 21; refine (between_any _ _ _ _).mono ?_; rintro e w' ⟨rfl, rfl⟩))
      rw [rounds_succ]
      go_wp2_with (first | (go_at_call 40; refine (Hw.out _).mono ?_; rintro e w' ⟨rfl, rfl⟩) | (go_at_call 21; refine (between_any _ _ _ _).mono ?_; rintro e w' ⟨rfl, rfl⟩))
      rw [rounds_succ]
      go_wp2_with (first | (go_at_call 40; refine (Hw.out _).mono ?_; rintro e w' ⟨rfl, rfl⟩) | (go_at_call 21; refine (between_any _ _ _ _).mono ?_; rintro e w' ⟨rfl, rfl⟩))
      rw [rounds_succ]
      go_wp2_with (first | (go_at_call 40; refine (Hw.out _).mono ?_; rintro e w' ⟨rfl, rfl⟩) | (go_at_call 21; refine (between_any _ _ _ _).mono ?_; rintro e w' ⟨rfl, rfl⟩))
      all_goals
        go_ret
        refine ⟨ret_int ?_, by repeat (first | exact Below.refl _ _ | refine bal ?_ _)⟩
        go_light
        have Hr' := Hr.out
        rw [Href.out]
        clear Href
        have rb := Rb.out
        have rc := Rc.out
        clear Rb Rc
        simp_all
        try omega
    · have hr' : rngOk 1 a b c = false := by simpa using hr
      have Hr : Hid _ := hr'
      clear hr hr'
      go_enter Try.func41, Try.ntmps41
      go_wp2_with (first | (go_at_call 40; refine (Hw.out _).mono ?_; rintro e w' ⟨rfl, rfl⟩) | (go_at_call 21; refine (between_any _ _ _ _).mono ?_; rintro e w' ⟨rfl, rfl⟩))
      refine wp_loop_rounds 4 ?_
      rw [rounds_succ]
      go_wp2_with (first | (go_at_call 40; refine (Hw.out _).mono ?_; rintro e w' ⟨rfl, rfl⟩) | (go_at_call 21; refine (between_any _ _ _ _).mono ?_; rintro e w' ⟨rfl, rfl⟩))
      all_goals try (rw [rounds_succ]; go_wp2_with (first | (go_at_call 40; refine (Hw.out _).mono ?_; rintro e w' ⟨rfl, rfl⟩) | (go_at_call 21; refine (between_any _ _ _ _).mono ?_; rintro e w' ⟨rfl, rfl⟩)))
      all_goals try (rw [rounds_succ]; go_wp2_with (first | (go_at_call 40; refine (Hw.out _).mono ?_; rintro e w' ⟨rfl, rfl⟩) | (go_at_call 21; refine (between_any _ _ _ _).mono ?_; rintro e w' ⟨rfl, rfl⟩)))
      all_goals try (rw [rounds_succ]; go_wp2_with (first | (go_at_call 40; refine (Hw.out _).mono ?_; rintro e w' ⟨rfl, rfl⟩) | (go_at_call 21; refine (between_any _ _ _ _).mono ?_; rintro e w' ⟨rfl, rfl⟩)))
      all_goals
        go_ret
        refine ⟨ret_int ?_, by repeat (first | exact Below.refl _ _ | refine bal ?_ _)⟩
        go_light
        first
          | (rw [Href.out, if_neg (by simp [hb]), if_pos Hr.out]; done)
          | (exfalso; have Hr' := Hr.out; simp only [rngOk] at Hr'; clear Href Hr; simp_all; done)
  · have hb' : btw own 1 8 = false := by simpa using hb
    clear hb
    go_enter Try.func41, Try.ntmps41
    go_wp2_with (first | (go_at_call 40; refine (Hw.out _).mono ?_; rintro e w' ⟨rfl, rfl⟩) | (go_at_call 21; refine (between_any _ _ _ _).mono ?_; rintro e w' ⟨rfl, rfl⟩))
    go_ret
    exact ⟨ret_int (by rw [Href.out, if_pos hb']), by repeat (first | exact Below.refl _ _ | refine bal ?_ _)⟩

set_option maxRecDepth 100000 in
set_option maxHeartbeats 4000000 in
theorem ref_22 (k own n a b c : Int) (hlo : 22 ≤ k) (hhi : k ≤ 23) (w : World) :
    Calls Try.prog 41 #[.int .i64 k, .int .i64 own, .int .i64 n, arr3 a b c] w fun e w' => e = .returned (.int .i64 (refE k own n a b c)) ∧ Below w.heap.size w w' := by
  have ht : takes k = 1 := by unfold takes; (repeat' split) <;> omega
  have hok : okOf k own n a b c = (decide (a ≤ own)) := by
    unfold okOf
    (repeat' split) <;> first | rfl | omega
  have href : refE k own n a b c = if btw own 1 8 = false then 3 else if rngOk 1 a b c = false then 3 else if (decide (a ≤ own)) = false ∨ (n ≠ 0) then 1 else 0 := by
    unfold refE
    rw [ht, hok]
    simp only [show ¬ (1 : Int) = 0 from by omega, if_false]
    have : k ≠ 21 := by omega
    simp [this]
  have Href : Hid _ := href
  have hw := takes_any k
  rw [ht] at hw
  have Hw : Hid _ := hw
  clear hw ht href hok
  have q6 : btw k 6 15 = false := by first | (rw [btw_true]; omega) | (rw [btw_false]; omega)
  have q16 : btw k 16 18 = false := by first | (rw [btw_true]; omega) | (rw [btw_false]; omega)
  have e4 : (k == 4) = false := by rw [beq_eq_false_iff_ne]; omega
  have e5 : (k == 5) = false := by rw [beq_eq_false_iff_ne]; omega
  have e19 : (k == 19) = false := by rw [beq_eq_false_iff_ne]; omega
  have e20 : (k == 20) = false := by rw [beq_eq_false_iff_ne]; omega
  have e21 : (k == 21) = false := by rw [beq_eq_false_iff_ne]; omega
  have n21 : (k != 21) = true := by rw [bne_iff_ne]; omega

  by_cases hb : btw own 1 8 = true
  · have hbd := btw_bd hb
    by_cases hr : rngOk 1 a b c = true
    · obtain ⟨ba, bb, bc⟩ := rng_bd hr
      have hr2 := hr
      simp only [rngOk, Bool.and_eq_true] at hr2
      simp only [show (0:Int) < 1 from by omega, show ¬ (1:Int) < 1 from by omega, show ¬ (2:Int) < 1 from by omega, if_true, if_false, beq_iff_eq] at hr2
      obtain ⟨⟨ra, rb⟩, rc⟩ := hr2
      have nb : (b != 0) = false := by simp [rb]
      have nc : (c != 0) = false := by simp [rc]
      have Rb : Hid _ := rb
      have Rc : Hid _ := rc
      clear rb rc
      have Hr : Hid _ := hr
      clear hr
      go_enter Try.func41, Try.ntmps41
      go_wp2_with (first | (go_at_call 40; refine (Hw.out _).mono ?_; rintro e w' ⟨rfl, rfl⟩) | (go_at_call 21; refine (between_any _ _ _ _).mono ?_; rintro e w' ⟨rfl, rfl⟩))
      refine wp_loop_rounds 4 ?_
      rw [rounds_succ]
      go_wp2_with (first | (go_at_call 40; refine (Hw.out _).mono ?_; rintro e w' ⟨rfl, rfl⟩) | (go_at_call 21; refine (between_any _ _ _ _).mono ?_; rintro e w' ⟨rfl, rfl⟩))
      rw [rounds_succ]
      go_wp2_with (first | (go_at_call 40; refine (Hw.out _).mono ?_; rintro e w' ⟨rfl, rfl⟩) | (go_at_call 21; refine (between_any _ _ _ _).mono ?_; rintro e w' ⟨rfl, rfl⟩))
      rw [rounds_succ]
      go_wp2_with (first | (go_at_call 40; refine (Hw.out _).mono ?_; rintro e w' ⟨rfl, rfl⟩) | (go_at_call 21; refine (between_any _ _ _ _).mono ?_; rintro e w' ⟨rfl, rfl⟩))
      rw [rounds_succ]
      go_wp2_with (first | (go_at_call 40; refine (Hw.out _).mono ?_; rintro e w' ⟨rfl, rfl⟩) | (go_at_call 21; refine (between_any _ _ _ _).mono ?_; rintro e w' ⟨rfl, rfl⟩))
      all_goals
        go_ret
        refine ⟨ret_int ?_, by repeat (first | exact Below.refl _ _ | refine bal ?_ _)⟩
        go_light
        have Hr' := Hr.out
        rw [Href.out]
        clear Href
        have rb := Rb.out
        have rc := Rc.out
        clear Rb Rc
        simp_all
    · have hr' : rngOk 1 a b c = false := by simpa using hr
      have Hr : Hid _ := hr'
      clear hr hr'
      go_enter Try.func41, Try.ntmps41
      go_wp2_with (first | (go_at_call 40; refine (Hw.out _).mono ?_; rintro e w' ⟨rfl, rfl⟩) | (go_at_call 21; refine (between_any _ _ _ _).mono ?_; rintro e w' ⟨rfl, rfl⟩))
      refine wp_loop_rounds 4 ?_
      rw [rounds_succ]
      go_wp2_with (first | (go_at_call 40; refine (Hw.out _).mono ?_; rintro e w' ⟨rfl, rfl⟩) | (go_at_call 21; refine (between_any _ _ _ _).mono ?_; rintro e w' ⟨rfl, rfl⟩))
      all_goals try (rw [rounds_succ]; go_wp2_with (first | (go_at_call 40; refine (Hw.out _).mono ?_; rintro e w' ⟨rfl, rfl⟩) | (go_at_call 21; refine (between_any _ _ _ _).mono ?_; rintro e w' ⟨rfl, rfl⟩)))
      all_goals try (rw [rounds_succ]; go_wp2_with (first | (go_at_call 40; refine (Hw.out _).mono ?_; rintro e w' ⟨rfl, rfl⟩) | (go_at_call 21; refine (between_any _ _ _ _).mono ?_; rintro e w' ⟨rfl, rfl⟩)))
      all_goals try (rw [rounds_succ]; go_wp2_with (first | (go_at_call 40; refine (Hw.out _).mono ?_; rintro e w' ⟨rfl, rfl⟩) | (go_at_call 21; refine (between_any _ _ _ _).mono ?_; rintro e w' ⟨rfl, rfl⟩)))
      all_goals
        go_ret
        refine ⟨ret_int ?_, by repeat (first | exact Below.refl _ _ | refine bal ?_ _)⟩
        go_light
        first
          | (rw [Href.out, if_neg (by simp [hb]), if_pos Hr.out]; done)
          | (exfalso; have Hr' := Hr.out; simp only [rngOk] at Hr'; clear Href Hr; simp_all; done)
  · have hb' : btw own 1 8 = false := by simpa using hb
    clear hb
    go_enter Try.func41, Try.ntmps41
    go_wp2_with (first | (go_at_call 40; refine (Hw.out _).mono ?_; rintro e w' ⟨rfl, rfl⟩) | (go_at_call 21; refine (between_any _ _ _ _).mono ?_; rintro e w' ⟨rfl, rfl⟩))
    go_ret
    exact ⟨ret_int (by rw [Href.out, if_pos hb']), by repeat (first | exact Below.refl _ _ | refine bal ?_ _)⟩

end Go.Proofs.Ytfobcnhibhbbaaa
