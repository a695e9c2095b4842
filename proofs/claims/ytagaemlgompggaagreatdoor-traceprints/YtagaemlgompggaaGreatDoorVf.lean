/- Apply, whatever it is handed. -/
import Derived.Test.YtagaemlgompggaaGreatDoorVe
namespace Go.Proofs.YtagaemlgompggaaGreatDoor.Ev
open Go.RowKit
set_option maxRecDepth 100000

/-- Are all three words of their widths? -/
def allW (a b c wa wb wc : Int) : Bool := isW a wa && isW b wb && isW c wc

/-- Apply's error. -/
def apE (k v a b c n wa wb wc : Int) : Int :=
  if fitE k v n wa wb wc = 0 then (if allW a b c wa wb wc then 0 else 3) else fitE k v n wa wb wc
/-- Apply's word. -/
def apV (k v a b c n wa wb wc : Int) : Int :=
  if apE k v a b c n wa wb wc = 0 then madeE k v a b c n wa wb else 0

theorem ret2' {a b d f : Int} (h : a = b) (h' : d = f) : Ending.returned (.tuple #[.int .i64 a, .int .i64 d]) = .returned (.tuple #[.int .i64 b, .int .i64 f]) := by rw [h, h']

set_option maxRecDepth 100000 in
set_option maxHeartbeats 1000000 in
theorem apply_unfit (k v a b c n wa wb wc : Int) (hfit : fitE k v n wa wb wc ≠ 0) (w : World) :
    Calls Tryz.prog 106 #[.int .i64 k, .int .i64 v, .int .i64 a, .int .i64 b, .int .i64 c, .int .i64 n, arr3 wa wb wc] w fun e w' => e = .returned (.tuple #[.int .i64 0, .int .i64 (fitE k v n wa wb wc)]) ∧ Below w.heap.size w w' := by
  have hne : (fitE k v n wa wb wc != 0) = true := by simp [hfit]
  clear hfit
  go_enter Tryz.func106, Tryz.ntmps106
  go_wp2_with fail
  refine (fit_any _ _ _ _ _ _ _).mono ?_
  rintro e w1 ⟨rfl, hb1⟩
  obtain ⟨c0, c1, c2, hbw⟩ := box3 hb1
  clear hb1
  go_wp2
  go_ret2
  exact ⟨rfl, hbw⟩

set_option maxRecDepth 100000 in
set_option maxHeartbeats 1000000 in
theorem apply_unword (k v a b c n wa wb wc : Int) (hfit : fitE k v n wa wb wc = 0) (hw : allW a b c wa wb wc = false) (w : World) :
    Calls Tryz.prog 106 #[.int .i64 k, .int .i64 v, .int .i64 a, .int .i64 b, .int .i64 c, .int .i64 n, arr3 wa wb wc] w fun e w' => e = .returned (.tuple #[.int .i64 0, .int .i64 3]) ∧ Below w.heap.size w w' := by
  obtain ⟨hv, hr, hok, hn, _⟩ := fit_zero hfit
  obtain ⟨ba, bb, bc⟩ := rng_bd hr
  have Hfit : Hid _ := hfit
  clear hfit hok hn hr
  have i0 : ∀ w : World, (Instr.index 141 (arr3 a b c) (.int .i64 0)).run Tryz.prog w = .ok (.int .i64 a) w := fun _ => by kernel_rfl
  have i1 : ∀ w : World, (Instr.index 141 (arr3 a b c) (.int .i64 1)).run Tryz.prog w = .ok (.int .i64 b) w := fun _ => by kernel_rfl
  have i2 : ∀ w : World, (Instr.index 141 (arr3 a b c) (.int .i64 2)).run Tryz.prog w = .ok (.int .i64 c) w := fun _ => by kernel_rfl
  have Hw : Hid _ := hw
  clear hw
  cases ha : isW a wa
  · go_enter Tryz.func106, Tryz.ntmps106
    go_wp2_with fail
    refine (fit_any _ _ _ _ _ _ _).mono ?_
    rintro e w1 ⟨rfl, hb1⟩
    rw [Hfit.out]
    obtain ⟨c0, c1, c2, hbw⟩ := box3 hb1
    clear hb1
    go_wp2
    refine wp_loop_rounds 4 ?_
    rw [rounds_succ]
    go_wp2_with (go_at_call 80; refine (isWord_any _ _ (by omega) _).mono ?_; rintro e w' ⟨rfl, rfl⟩)
    go_ret2
    exact ⟨rfl, hbw⟩
  cases hb : isW b wb
  · go_enter Tryz.func106, Tryz.ntmps106
    go_wp2_with fail
    refine (fit_any _ _ _ _ _ _ _).mono ?_
    rintro e w1 ⟨rfl, hb1⟩
    rw [Hfit.out]
    obtain ⟨c0, c1, c2, hbw⟩ := box3 hb1
    clear hb1
    go_wp2
    refine wp_loop_rounds 4 ?_
    rw [rounds_succ]
    go_wp2_with (go_at_call 80; refine (isWord_any _ _ (by omega) _).mono ?_; rintro e w' ⟨rfl, rfl⟩)
    rw [rounds_succ]
    go_wp2_with (go_at_call 80; refine (isWord_any _ _ (by omega) _).mono ?_; rintro e w' ⟨rfl, rfl⟩)
    go_ret2
    exact ⟨rfl, hbw⟩
  have hc : isW c wc = false := by
    have := Hw.out
    simpa [allW, ha, hb] using this
  go_enter Tryz.func106, Tryz.ntmps106
  go_wp2_with fail
  refine (fit_any _ _ _ _ _ _ _).mono ?_
  rintro e w1 ⟨rfl, hb1⟩
  rw [Hfit.out]
  obtain ⟨c0, c1, c2, hbw⟩ := box3 hb1
  clear hb1
  go_wp2
  refine wp_loop_rounds 4 ?_
  rw [rounds_succ]
  go_wp2_with (go_at_call 80; refine (isWord_any _ _ (by omega) _).mono ?_; rintro e w' ⟨rfl, rfl⟩)
  rw [rounds_succ]
  go_wp2_with (go_at_call 80; refine (isWord_any _ _ (by omega) _).mono ?_; rintro e w' ⟨rfl, rfl⟩)
  rw [rounds_succ]
  go_wp2_with (go_at_call 80; refine (isWord_any _ _ (by omega) _).mono ?_; rintro e w' ⟨rfl, rfl⟩)
  go_ret2
  exact ⟨rfl, hbw⟩

theorem kinds20 {k : Int} (h : 4 ≤ k ∧ k ≤ 23) : k = 4 ∨ k = 5 ∨ k = 6 ∨ k = 7 ∨ k = 8 ∨ k = 9 ∨ k = 10 ∨ k = 11 ∨ k = 12 ∨ k = 13 ∨ k = 14 ∨ k = 15 ∨ k = 16 ∨ k = 17 ∨ k = 18 ∨ k = 19 ∨ k = 20 ∨ k = 21 ∨ k = 22 ∨ k = 23 := by omega

theorem apply_right (k v a b c n wa wb wc : Int) (hfit : fitE k v n wa wb wc = 0) (ha : isW a wa = true) (hb : isW b wb = true) (hc : isW c wc = true) (w : World) :
    Calls Tryz.prog 106 #[.int .i64 k, .int .i64 v, .int .i64 a, .int .i64 b, .int .i64 c, .int .i64 n, arr3 wa wb wc] w fun e w' => e = .returned (.tuple #[.int .i64 (madeE k v a b c n wa wb), .int .i64 0]) ∧ Below w.heap.size w w' := by
  rcases kinds20 (fit_zero hfit).2.2.2.2 with rfl | rfl | rfl | rfl | rfl | rfl | rfl | rfl | rfl | rfl | rfl | rfl | rfl | rfl | rfl | rfl | rfl | rfl | rfl | rfl
  · exact apply_4 v a b c n wa wb wc hfit ha hb hc w
  · exact apply_5 v a b c n wa wb wc hfit ha hb hc w
  · exact apply_6 v a b c n wa wb wc hfit ha hb hc w
  · exact apply_7 v a b c n wa wb wc hfit ha hb hc w
  · exact apply_8 v a b c n wa wb wc hfit ha hb hc w
  · exact apply_9 v a b c n wa wb wc hfit ha hb hc w
  · exact apply_10 v a b c n wa wb wc hfit ha hb hc w
  · exact apply_11 v a b c n wa wb wc hfit ha hb hc w
  · exact apply_12 v a b c n wa wb wc hfit ha hb hc w
  · exact apply_13 v a b c n wa wb wc hfit ha hb hc w
  · exact apply_14 v a b c n wa wb wc hfit ha hb hc w
  · exact apply_15 v a b c n wa wb wc hfit ha hb hc w
  · exact apply_16 v a b c n wa wb wc hfit ha hb hc w
  · exact apply_17 v a b c n wa wb wc hfit ha hb hc w
  · exact apply_18 v a b c n wa wb wc hfit ha hb hc w
  · exact apply_19 v a b c n wa wb wc hfit ha hb hc w
  · exact apply_20 v a b c n wa wb wc hfit ha hb hc w
  · exact apply_21 v a b c n wa wb wc hfit ha hb hc w
  · exact apply_22 v a b c n wa wb wc hfit ha hb hc w
  · exact apply_23 v a b c n wa wb wc hfit ha hb hc w

/-- Apply, whatever it is handed. -/
theorem apply_any (k v a b c n wa wb wc : Int) (w : World) :
    Calls Tryz.prog 106 #[.int .i64 k, .int .i64 v, .int .i64 a, .int .i64 b, .int .i64 c, .int .i64 n, arr3 wa wb wc] w fun e w' => e = .returned (.tuple #[.int .i64 (apV k v a b c n wa wb wc), .int .i64 (apE k v a b c n wa wb wc)]) ∧ Below w.heap.size w w' := by
  by_cases hf : fitE k v n wa wb wc = 0
  · cases hw : allW a b c wa wb wc
    · have e1 : apE k v a b c n wa wb wc = 3 := by simp [apE, hf, hw]
      have e2 : apV k v a b c n wa wb wc = 0 := by simp [apV, e1]
      rw [e1, e2]
      exact apply_unword k v a b c n wa wb wc hf hw w
    · have e1 : apE k v a b c n wa wb wc = 0 := by simp [apE, hf, hw]
      have e2 : apV k v a b c n wa wb wc = madeE k v a b c n wa wb := by simp [apV, e1]
      rw [e1, e2]
      simp only [allW, Bool.and_eq_true] at hw
      exact apply_right k v a b c n wa wb wc hf hw.1.1 hw.1.2 hw.2 w
  · have e1 : apE k v a b c n wa wb wc = fitE k v n wa wb wc := by simp [apE, hf]
    have e2 : apV k v a b c n wa wb wc = 0 := by simp [apV, e1, hf]
    rw [e1, e2]
    exact apply_unfit k v a b c n wa wb wc hf w

end Go.Proofs.YtagaemlgompggaaGreatDoor.Ev
