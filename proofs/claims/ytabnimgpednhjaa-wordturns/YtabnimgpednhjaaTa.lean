/- WordTurns: the calls of Apply that it makes, and its walk. -/
import Derived.Test.YtabnimgpednhjaaRa
import Derived.Test.YtabnimgpednhjaaXa
namespace Go.Proofs.Ytabnimgpednhjaa
open Go.RowKit

theorem eight {v : Int} (h : 1 ≤ v ∧ v ≤ 8) : v = 1 ∨ v = 2 ∨ v = 3 ∨ v = 4 ∨ v = 5 ∨ v = 6 ∨ v = 7 ∨ v = 8 := by omega

theorem fit_bin (k v : Int) (hk : k = 9 ∨ k = 10 ∨ k = 12 ∨ k = 13) (hv : 1 ≤ v ∧ v ≤ 8) : fitE k v 0 v v 0 = 0 := by
  rcases hk with rfl | rfl | rfl | rfl <;> rcases eight hv with rfl | rfl | rfl | rfl | rfl | rfl | rfl | rfl <;> decide

theorem fit_join (v : Int) (hv : 1 ≤ v ∧ v ≤ 4) : fitE 20 (2 * v) 0 v v 0 = 0 := by
  rcases eight (v := v) (by omega) with rfl | rfl | rfl | rfl | rfl | rfl | rfl | rfl <;> first | decide | omega

theorem fit_cut (v n : Int) (hv : 1 ≤ v ∧ v ≤ 4) (hn : n = 0 ∨ n = v) : fitE 21 v n (2 * v) 0 0 = 0 := by
  rcases hn with rfl | rfl
  · rcases eight (v := v) (by omega) with rfl | rfl | rfl | rfl | rfl | rfl | rfl | rfl <;> first | decide | omega
  · rcases eight (v := n) (by omega) with rfl | rfl | rfl | rfl | rfl | rfl | rfl | rfl <;> first | decide | omega

theorem ap_zero {k v a b c n wa wb wc : Int} (hf : fitE k v n wa wb wc = 0) (ha : isW a wa = true) (hb : isW b wb = true) (hc : isW c wc = true) :
    apE k v a b c n wa wb wc = 0 ∧ apV k v a b c n wa wb wc = madeE k v a b c n wa wb := by
  have e1 : apE k v a b c n wa wb wc = 0 := by simp [apE, hf, allW, ha, hb, hc]
  exact ⟨e1, by simp [apV, e1]⟩

theorem isW_zero : isW 0 0 = true := by decide

theorem bin_any (k v a b : Int) (hk : k = 9 ∨ k = 10 ∨ k = 12 ∨ k = 13) (hv : 1 ≤ v ∧ v ≤ 8) (ha : 0 ≤ a ∧ a < two v) (hb : 0 ≤ b ∧ b < two v) (r : Int) (hr : madeE k v a b 0 0 v v = r) (w : World) :
    Calls Try.prog 14 #[.int .i64 k, .int .i64 v, .int .i64 a, .int .i64 b, .int .i64 0, .int .i64 0, arr3 v v 0] w fun e w' => e = .returned (.tuple #[.int .i64 r, .int .i64 0]) ∧ Below w.heap.size w w' := by
  have h := ap_zero (a := a) (b := b) (c := 0) (fit_bin k v hk hv) (isW_iff.2 ha) (isW_iff.2 hb) isW_zero
  have h2 := apply_any k v a b 0 0 v v 0 w
  rw [h.1, h.2, hr] at h2
  exact h2

theorem join_any (v a b : Int) (hv : 1 ≤ v ∧ v ≤ 4) (ha : 0 ≤ a ∧ a < two v) (hb : 0 ≤ b ∧ b < two v) (w : World) :
    Calls Try.prog 14 #[.int .i64 20, .int .i64 (2 * v), .int .i64 a, .int .i64 b, .int .i64 0, .int .i64 0, arr3 v v 0] w fun e w' => e = .returned (.tuple #[.int .i64 (a * two v + b), .int .i64 0]) ∧ Below w.heap.size w w' := by
  have h := ap_zero (a := a) (b := b) (c := 0) (fit_join v hv) (isW_iff.2 ha) (isW_iff.2 hb) isW_zero
  have h2 := apply_any 20 (2 * v) a b 0 0 v v 0 w
  rw [h.1, h.2] at h2
  exact h2

theorem cut_any (v j n : Int) (hv : 1 ≤ v ∧ v ≤ 4) (hj : 0 ≤ j ∧ j < two (2 * v)) (hn : n = 0 ∨ n = v) (r : Int) (hr : j / two n % two v = r) (w : World) :
    Calls Try.prog 14 #[.int .i64 21, .int .i64 v, .int .i64 j, .int .i64 0, .int .i64 0, .int .i64 n, arr3 (2 * v) 0 0] w fun e w' => e = .returned (.tuple #[.int .i64 r, .int .i64 0]) ∧ Below w.heap.size w w' := by
  have h := ap_zero (a := j) (b := 0) (c := 0) (fit_cut v n hv hn) (isW_iff.2 hj) isW_zero isW_zero
  have h2 := apply_any 21 v j 0 0 n (2 * v) 0 0 w
  rw [h.1, h.2] at h2
  rw [← hr]
  exact h2

/-- Plain: what is taken away from a sum is the other one. -/
theorem back_is (v a b : Int) (ha : 0 ≤ a ∧ a < two v) : ((a + b) % two v + two v - b) % two v = a := by
  have h1 := Int.emod_add_mul_ediv (a + b) (two v)
  have : (a + b) % two v + two v - b = a + two v * (1 - (a + b) / two v) := by
    rw [Int.mul_sub, Int.mul_one]; omega
  rw [this, Int.add_mul_emod_self_left, emod_small ha.1 ha.2]

theorem two_dbl (v : Int) (hv : 0 ≤ v) : two (2 * v) = two v * two v := by
  obtain ⟨n, rfl⟩ := Int.eq_ofNat_of_zero_le hv
  unfold two
  rw [show (2 * (n : Int)).toNat = n + n from by omega, show ((n : Int)).toNat = n from by omega, Int.pow_add]

theorem join_bd (v a b : Int) (hv : 0 ≤ v) (ha : 0 ≤ a ∧ a < two v) (hb : 0 ≤ b ∧ b < two v) : 0 ≤ a * two v + b ∧ a * two v + b < two (2 * v) := by
  have h0 : 0 ≤ a * two v := Int.mul_nonneg ha.1 (by omega)
  have h1 : (a + 1) * two v ≤ two v * two v := Int.mul_le_mul_of_nonneg_right (by omega) (by omega)
  rw [Int.add_mul, Int.one_mul] at h1
  rw [two_dbl v hv]
  omega

theorem lo_is (v a b : Int) (hb : 0 ≤ b ∧ b < two v) : (a * two v + b) / two 0 % two v = b := by
  rw [two0, Int.ediv_one, Int.add_comm, Int.add_mul_emod_self_right, emod_small hb.1 hb.2]

theorem hi_is (v a b : Int) (ha : 0 ≤ a ∧ a < two v) (hb : 0 ≤ b ∧ b < two v) : (a * two v + b) / two v % two v = a := by
  rw [Int.add_comm, Int.add_mul_ediv_right _ _ (by omega), Int.ediv_eq_zero_of_lt hb.1 hb.2, Int.zero_add, emod_small ha.1 ha.2]

end Go.Proofs.Ytabnimgpednhjaa
