/- WordFits: the walk. -/
import Derived.Test.YtabnimgpednhjaaVf
import Derived.Deep.RegionWith
namespace Go.Proofs.Ytabnimgpednhjaa
open Go.RowKit

theorem fitE_begun : fitE 9 4 0 4 4 0 = 0 := by decide
theorem apE_begun : apE 9 4 9 9 0 0 4 4 0 = 0 := by decide
theorem apV_begun : apV 9 4 9 9 0 0 4 4 0 = 2 := by decide

/-- From one world to the next, below what was there first. -/
theorem bthen {w w1 w2 : World} (h : Below w.heap.size w w1) (k : Below w1.heap.size w1 w2) : Below w.heap.size w w2 := h.trans (k.mono h.size)

set_option maxHeartbeats 400000 in
theorem begun_any (w : World) : Calls Try.prog 11 #[] w fun e w' => e = .returned (.bool true) ∧ Below w.heap.size w w' := by
  go_enter Try.func11, Try.ntmps11
  go_wp2_with fail
  refine (apply_any 9 4 9 9 0 0 4 4 0 _).mono ?_
  rintro e w1 ⟨rfl, hb1⟩
  rw [apE_begun, apV_begun]
  go_wp2_with fail
  refine (fit_any 9 4 0 4 4 0 _).mono ?_
  rintro e w2 ⟨rfl, hb2⟩
  rw [fitE_begun]
  go_wp2
  go_ret
  exact ⟨rfl, bthen hb1 hb2⟩

theorem refOf_any (k own n a b c : Int) (w : World) :
    Calls Try.prog 13 #[.int .i64 k, .int .i64 own, .int .i64 n, arr3 a b c] w fun e w' => e = .returned (.int .i64 (fitE k own n a b c)) ∧ Below w.heap.size w w' := by
  rw [← ref_fit]
  by_cases h : 4 ≤ k ∧ k ≤ 23
  · by_cases h4 : k = 4
    · exact ref_4 k own n a b c (by omega) (by omega) w
    by_cases h5 : k = 5
    · exact ref_5 k own n a b c (by omega) (by omega) w
    by_cases h15 : k ≤ 15
    · exact ref_6 k own n a b c (by omega) (by omega) w
    by_cases h18 : k ≤ 18
    · exact ref_16 k own n a b c (by omega) (by omega) w
    by_cases h19 : k = 19
    · exact ref_19 k own n a b c (by omega) (by omega) w
    by_cases h20 : k = 20
    · exact ref_20 k own n a b c (by omega) (by omega) w
    by_cases h21 : k = 21
    · exact ref_21 k own n a b c (by omega) (by omega) w
    · exact ref_22 k own n a b c (by omega) (by omega) w
  · have ht : takes k = 0 := by unfold takes; (repeat' split) <;> omega
    have Hr : Hid (refE k own n a b c = 7) := by unfold refE; rw [if_pos ht]; rfl
    have hw := takes_any k
    rw [ht] at hw
    have Hw : Hid _ := hw
    clear hw ht h
    go_enter Try.func13, Try.ntmps13
    go_wp2_with (go_at_call 15; refine (Hw.out _).mono ?_; rintro e w' ⟨rfl, rfl⟩)
    go_ret
    exact ⟨ret_int Hr.out.symm, bal (Below.refl _ _) _⟩

set_option maxRecDepth 100000 in
set_option maxHeartbeats 1000000 in
theorem wordFits_walk (k own n a b c : Int) (w : World) :
    Calls Try.prog 3 #[.int .i64 k, .int .i64 own, .int .i64 n, arr3 a b c] w fun e w' => e = .returned (.bool true) ∧ Below w.heap.size w w' := by
  go_enter Try.func3, Try.ntmps3
  go_wp2
  go_region_with (first
    | (go_at_call 11; refine (begun_any _).mono ?_; rintro e w1 ⟨rfl, hb1⟩; have k0 := cell_later hb1 (a := ⟨w.heap.size, 0, none⟩) (v := .int .i64 a) (by simp [go_sem]); have k1 := cell_later hb1 (a := ⟨w.heap.size, 1, none⟩) (v := .int .i64 b) (by simp [go_sem]); have k2 := cell_later hb1 (a := ⟨w.heap.size, 2, none⟩) (v := .int .i64 c) (by simp [go_sem]))
    | (go_at_call 12; refine (fit_any _ _ _ _ _ _ _).mono ?_; rintro e w2 ⟨rfl, hb2⟩; have l0 := cell_later hb2 k0; have l1 := cell_later hb2 k1; have l2 := cell_later hb2 k2)
    | (go_at_call 13; refine (refOf_any _ _ _ _ _ _ _).mono ?_; rintro e w3 ⟨rfl, hb3⟩))
  all_goals
    go_wp2
    go_ret
    exact ⟨ret_bool (by simp), bthen (bthen (bthen (bal (Below.refl _ _) _).drew hb1) hb2) hb3⟩

end Go.Proofs.Ytabnimgpednhjaa
