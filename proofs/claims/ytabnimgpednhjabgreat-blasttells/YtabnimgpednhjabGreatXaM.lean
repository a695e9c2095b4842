import Derived.Test.YtabnimgpednhjabGreatVe
import Derived.Deep.RegionWith
namespace Go.Proofs.YtabnimgpednhjabGreat
open Go.RowKit
set_option maxRecDepth 100000
theorem kinds20 {k : Int} (h : 4 ≤ k ∧ k ≤ 23) : k = 4 ∨ k = 5 ∨ k = 6 ∨ k = 7 ∨ k = 8 ∨ k = 9 ∨ k = 10 ∨ k = 11 ∨ k = 12 ∨ k = 13 ∨ k = 14 ∨ k = 15 ∨ k = 16 ∨ k = 17 ∨ k = 18 ∨ k = 19 ∨ k = 20 ∨ k = 21 ∨ k = 22 ∨ k = 23 := by omega
theorem apply_right (k v a b c n wa wb wc : Int) (hfit : fitE k v n wa wb wc = 0) (ha : isW a wa = true) (hb : isW b wb = true) (hc : isW c wc = true) (w : World) :
   Calls Tryz.prog 129 #[.int .i64 k, .int .i64 v, .int .i64 a, .int .i64 b, .int .i64 c, .int .i64 n, arr3 wa wb wc] w fun e w' => e = .returned (.tuple #[.int .i64 (madeE k v a b c n wa wb), .int .i64 0]) ∧ Below w.heap.size w w' := by
 rcases kinds20 (fit_zero hfit).2.2.2.2 with rfl | rfl | rfl | rfl | rfl | rfl | rfl | rfl | rfl | rfl | rfl | rfl | rfl | rfl | rfl | rfl | rfl | rfl | rfl | rfl
 · exact apply_4 v a b c n wa wb wc hfit ha hb hc w
 · exact apply_5 v a b c n wa wb wc hfit ha hb hc w
 · exact apply_6 v a b c n wa wb wc hfit ha hb hc w
 · exact apply_7 v a b c n wa wb wc hfit ha hb hc w
 · exact apply_8 v a b c n wa wb wc hfit ha hb hc w
 · exact apply_9 v a b c n wa wb wc hfit ha hb hc w
 · exact apply_10 v a b c n wa wb wc hfit ha hb hc w
 · exact apply_11 v a b c n wa wb wc hfit ha hb hc w
 · exact apply_12 v a b c n wa wb wc hfit ha hb hc w
 · exact apply_13 v a b c n wa wb wc hfit ha hb hc w
 · exact apply_14 v a b c n wa wb wc hfit ha hb hc w
 · exact apply_15 v a b c n wa wb wc hfit ha hb hc w
 · exact apply_16 v a b c n wa wb wc hfit ha hb hc w
 · exact apply_17 v a b c n wa wb wc hfit ha hb hc w
 · exact apply_18 v a b c n wa wb wc hfit ha hb hc w
 · exact apply_19 v a b c n wa wb wc hfit ha hb hc w
 · exact apply_20 v a b c n wa wb wc hfit ha hb hc w
 · exact apply_21 v a b c n wa wb wc hfit ha hb hc w
 · exact apply_22 v a b c n wa wb wc hfit ha hb hc w
 · exact apply_23 v a b c n wa wb wc hfit ha hb hc w
end Go.Proofs.YtabnimgpednhjabGreat

namespace Go.Proofs.YtabnimgpednhjabGreat
open Go.RowKit
set_option maxRecDepth 100000
theorem bthen {w w1 w2 : World} (h : Below w.heap.size w w1) (k : Below w1.heap.size w1 w2) : Below w.heap.size w w2 := h.trans (k.mono h.size)
theorem refOf_any (k own n a b c : Int) (w : World) :
   Calls Tryz.prog 62 #[.int .i64 k, .int .i64 own, .int .i64 n, arr3 a b c] w fun e w' => e = .returned (.int .i64 (fitE k own n a b c)) ∧ Below w.heap.size w w' := by
 rw [← ref_fit]
 by_cases h : 4 ≤ k ∧ k ≤ 23
 · by_cases h4 : k = 4
   · exact ref_4 k own n a b c (by omega) (by omega) w
   by_cases h5 : k = 5
   · exact ref_5 k own n a b c (by omega) (by omega) w
   by_cases h15 : k ≤ 15
   · exact ref_6 k own n a b c (by omega) (by omega) w
   by_cases h18 : k ≤ 18
   · exact ref_16 k own n a b c (by omega) (by omega) w
   by_cases h19 : k = 19
   · exact ref_19 k own n a b c (by omega) (by omega) w
   by_cases h20 : k = 20
   · exact ref_20 k own n a b c (by omega) (by omega) w
   by_cases h21 : k = 21
   · exact ref_21 k own n a b c (by omega) (by omega) w
   · exact ref_22 k own n a b c (by omega) (by omega) w
 · have ht : takes k = 0 := by unfold takes; (repeat' split) <;> omega
   have Hr : Hid (refE k own n a b c = 7) := by unfold refE; rw [if_pos ht]; rfl
   have hw := takes_any k
   rw [ht] at hw
   have Hw : Hid _ := hw
   clear hw ht h
   go_enter Tryz.func62, Tryz.ntmps62
   go_wp2_with (go_at_call 61; refine (Hw.out _).mono ?_; rintro e w' ⟨rfl, rfl⟩)
   go_ret
   exact ⟨ret_int Hr.out.symm, bal (Below.refl _ _) _⟩
end Go.Proofs.YtabnimgpednhjabGreat
