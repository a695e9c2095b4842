/- WordTurns: its walk. -/
import Derived.Test.YtabnimgpednhjaaTa
namespace Go.Proofs.Ytabnimgpednhjaa
open Go.RowKit

set_option maxRecDepth 100000 in
set_option maxHeartbeats 2000000 in
theorem wordTurns_walk (x y z : Int) (hx : -9223372036854775808 ≤ x ∧ x ≤ 9223372036854775807) (hy : -9223372036854775808 ≤ y ∧ y ≤ 9223372036854775807) (hz : -9223372036854775808 ≤ z ∧ z ≤ 9223372036854775807) (w : World) :
    Calls Try.prog 5 #[.int .i64 x, .int .i64 y, .int .i64 z] w fun e w' => e = .returned (.bool true) ∧ Below w.heap.size w w' := by
  have hv := pick_bd x 8 (by omega)
  have HX : Hid _ := hx
  have HY : Hid _ := hy
  have HZ : Hid _ := hz
  clear hx hy hz
  go_enter Try.func5, Try.ntmps5
  go_wp2_with fail
  refine (begun_any _).mono ?_
  rintro e w1 ⟨rfl, hb1⟩
  go_wp2_with fail
  refine (choose_any x 8 HX.out.1 HX.out.2 (by omega) (by omega) _).mono ?_
  rintro e w' ⟨rfl, rfl⟩
  generalize pick x 8 = v at *
  go_wp2_with fail
  have hp : 1 ≤ 1 + v ∧ 1 + v ≤ 8 := by omega
  generalize 1 + v = u at *
  refine (two_any u (by omega) (by omega) _).mono ?_
  rintro e w' ⟨rfl, rfl⟩
  go_wp2_with fail
  have ht := two_bd (v := u) (by omega)
  refine (choose_any y (two u) HY.out.1 HY.out.2 (by omega) (by omega) _).mono ?_
  rintro e w' ⟨rfl, rfl⟩
  have ha := pick_bd y (two u) (by omega)
  generalize pick y (two u) = a at *
  go_wp2_with fail
  refine (two_any u (by omega) (by omega) _).mono ?_
  rintro e w' ⟨rfl, rfl⟩
  go_wp2_with fail
  refine (choose_any z (two u) HZ.out.1 HZ.out.2 (by omega) (by omega) _).mono ?_
  rintro e w' ⟨rfl, rfl⟩
  have hb := pick_bd z (two u) (by omega)
  generalize pick z (two u) = b at *
  go_wp2_with fail
  refine (bin_any 9 u a b (by omega) hp ha hb ((a + b) % two u) rfl _).mono ?_
  rintro e w2 ⟨rfl, hb2⟩
  obtain ⟨c0, c1, c2, hbw⟩ := box3 hb2
  clear hb2
  have hs : 0 ≤ (a + b) % two u ∧ (a + b) % two u < two u := ⟨Int.emod_nonneg _ (by omega), Int.emod_lt_of_pos _ (by omega)⟩
  have HB : Hid (madeE 10 u ((a + b) % two u) b 0 0 u u = a) := back_is u a b ha
  generalize (a + b) % two u = s at *
  go_wp2_with fail
  refine (bin_any 10 u s b (by omega) hp hs hb a HB.out _).mono ?_
  rintro e w3 ⟨rfl, hb3⟩
  have d0 := cell_later hb3 c0
  have d1 := cell_later hb3 c1
  have d2 := cell_later hb3 c2
  have hbw3 := bthen hbw hb3
  clear c0 c1 c2 hb3 hbw
  obtain ⟨q, HQ⟩ : ∃ q, Hid (madeE 12 u a b 0 0 u u = q) := ⟨_, rfl⟩
  obtain ⟨r, HR⟩ : ∃ r, Hid (madeE 13 u a b 0 0 u u = r) := ⟨_, rfl⟩
  go_wp2_with fail
  refine (bin_any 12 u a b (by omega) hp ha hb q HQ.out _).mono ?_
  rintro e w4 ⟨rfl, hb4⟩
  have e0 := cell_later hb4 d0
  have e1 := cell_later hb4 d1
  have e2 := cell_later hb4 d2
  have hbw4 := bthen hbw3 hb4
  clear d0 d1 d2 hb4 hbw3
  go_wp2_with fail
  refine (bin_any 13 u a b (by omega) hp ha hb r HR.out _).mono ?_
  rintro e w5 ⟨rfl, hb5⟩
  have f0 := cell_later hb5 e0
  have f1 := cell_later hb5 e1
  have f2 := cell_later hb5 e2
  have hbw5 := bthen hbw4 hb5
  clear e0 e1 e2 hb5 hbw4
  have hbw6 := bthen hb1 hbw5
  clear hbw5
  have HT : Hid _ := ht
  have hqr : Hid (b ≠ 0 → q * b + r = a ∧ r < b ∧ 0 ≤ r ∧ 0 ≤ q ∧ q < 256) := by
    intro hne
    have hq : q = a / b := by rw [← HQ.out]; show (if b = 0 then _ else a / b) = _; rw [if_neg hne]
    have hr : r = a % b := by rw [← HR.out]; show (if b = 0 then _ else a % b) = _; rw [if_neg hne]
    subst hq hr
    have := Int.ediv_le_self b ha.1
    refine ⟨by rw [Int.mul_comm]; exact Int.mul_ediv_add_emod a b, Int.emod_lt_of_pos _ (by omega), Int.emod_nonneg _ hne, Int.ediv_nonneg ha.1 hb.1, by omega⟩
  clear HQ HR
  by_cases hne : b = 0
  · have hnb : (b != 0) = false := by simp [hne]
    clear hne hqr
    by_cases h4 : 2 * u > 8
    · go_wp2
      go_ret
      exact ⟨rfl, hbw6⟩
    · go_wp2_with fail
      have hu4 : 1 ≤ u ∧ u ≤ 4 := by omega
      refine (join_any u a b hu4 ha hb _).mono ?_
      rintro e w6 ⟨rfl, hb6⟩
      have hj := join_bd u a b (by omega) ha hb
      have HL : Hid ((a * two u + b) / two 0 % two u = b) := lo_is u a b hb
      have HH : Hid ((a * two u + b) / two u % two u = a) := hi_is u a b ha hb
      generalize a * two u + b = j at *
      go_wp2_with fail
      refine (cut_any u j 0 hu4 hj (by omega) b HL.out _).mono ?_
      rintro e w7 ⟨rfl, hb7⟩
      go_wp2_with fail
      refine (cut_any u j u hu4 hj (by omega) a HH.out _).mono ?_
      rintro e w8 ⟨rfl, hb8⟩
      go_wp2
      go_ret
      exact ⟨ret_bool (by simp), bthen (bthen (bthen hbw6 hb6) hb7) hb8⟩
  · have hnb : (b != 0) = true := by simp [hne]
    obtain ⟨g1, g2, g3, g4, g5⟩ := hqr.out hne
    have hm0 : 0 ≤ q * b := Int.mul_nonneg g4 hb.1
    have hm1 : q * b ≤ 256 := by omega
    have hm2 : (q * b + r != a) = false := by simp [g1]
    clear hne hqr g1
    by_cases h4 : 2 * u > 8
    · go_wp2
      go_ret
      exact ⟨rfl, hbw6⟩
    · go_wp2_with fail
      have hu4 : 1 ≤ u ∧ u ≤ 4 := by omega
      refine (join_any u a b hu4 ha hb _).mono ?_
      rintro e w6 ⟨rfl, hb6⟩
      have hj := join_bd u a b (by omega) ha hb
      have HL : Hid ((a * two u + b) / two 0 % two u = b) := lo_is u a b hb
      have HH : Hid ((a * two u + b) / two u % two u = a) := hi_is u a b ha hb
      generalize a * two u + b = j at *
      go_wp2_with fail
      refine (cut_any u j 0 hu4 hj (by omega) b HL.out _).mono ?_
      rintro e w7 ⟨rfl, hb7⟩
      go_wp2_with fail
      refine (cut_any u j u hu4 hj (by omega) a HH.out _).mono ?_
      rintro e w8 ⟨rfl, hb8⟩
      go_wp2
      go_ret
      exact ⟨ret_bool (by simp), bthen (bthen (bthen hbw6 hb6) hb7) hb8⟩

end Go.Proofs.Ytabnimgpednhjaa
