/- A queue's heap: up. -/
import Derived.Test.YtkinmangilbeeaaGreatDoorJcM
namespace Go.Proofs.YtkinmangilbeeaaGreatDoor.Sr
open Go.RowKit Go.Maps Go.Proofs.YtkinmangilbeeaaGreatDoor.Pf
set_option maxRecDepth 100000

/-- One that is heavier than the one above it goes up. -/
def upN : Nat → Qu → Nat → Qu
  | 0, Q, _ => Q
  | f + 1, Q, j => if j = 0 then Q else if Q.less j ((j - 1) / 2) then upN f (Q.swap ((j - 1) / 2) j) ((j - 1) / 2) else Q
def Qu.up (Q : Qu) (j : Nat) : Qu := upN (j + 1) Q j
theorem upN_succ (f : Nat) (Q : Qu) (j : Nat) : upN (f + 1) Q j = if j = 0 then Q else if Q.less j ((j - 1) / 2) then upN f (Q.swap ((j - 1) / 2) j) ((j - 1) / 2) else Q := rfl
theorem up_more : ∀ (f : Nat) (Q : Qu) (j : Nat), j + 1 ≤ f → upN (f + 1) Q j = upN f Q j := by
  intro f
  induction f with
  | zero => intro Q j h; omega
  | succ f ih =>
    intro Q j h
    conv => lhs; rw [upN_succ]
    conv => rhs; rw [upN_succ]
    by_cases h0 : j = 0
    · rw [if_pos h0, if_pos h0]
    · rw [if_neg h0, if_neg h0, ih _ _ (by omega)]
theorem up_fuel {f : Nat} (Q : Qu) {j : Nat} (h : j + 1 ≤ f) : upN f Q j = Q.up j := by
  obtain ⟨d, rfl⟩ : ∃ d, f = j + 1 + d := ⟨f - (j + 1), by omega⟩
  clear h
  induction d with
  | zero => rfl
  | succ d ih => rw [← ih]; exact up_more (j + 1 + d) Q j (by omega)
theorem up_step {Q : Qu} {j : Nat} (h0 : j ≠ 0) (h : Q.less j ((j - 1) / 2) = true) : Q.up j = (Q.swap ((j - 1) / 2) j).up ((j - 1) / 2) := by
  unfold Qu.up
  rw [upN, if_neg h0, if_pos h]
  exact up_fuel _ (by omega)
theorem up_zero (Q : Qu) : Q.up 0 = Q := by unfold Qu.up; rw [upN, if_pos rfl]
theorem up_stop {Q : Qu} {j : Nat} (h : Q.less j ((j - 1) / 2) = false) : Q.up j = Q := by
  unfold Qu.up
  rw [upN]
  split
  · rfl
  · rw [if_neg (by simp [h])]
theorem mLess (q : Nat) (w : World) : (method 334 79 (.pointer (some ⟨q, 0, none⟩)) "Less").run Tryz.prog w = .ok (200, .pointer (some ⟨q, 0, none⟩)) w := by kernel_rfl
theorem mSwap (q : Nat) (w : World) : (method 334 79 (.pointer (some ⟨q, 0, none⟩)) "Swap").run Tryz.prog w = .ok (202, .pointer (some ⟨q, 0, none⟩)) w := by kernel_rfl
theorem mLen (q : Nat) (w : World) : (method 334 79 (.pointer (some ⟨q, 0, none⟩)) "Len").run Tryz.prog w = .ok (63, .pointer (some ⟨q, 0, none⟩)) w := by kernel_rfl
theorem mPush (q : Nat) (w : World) : (method 334 79 (.pointer (some ⟨q, 0, none⟩)) "Push").run Tryz.prog w = .ok (56, .pointer (some ⟨q, 0, none⟩)) w := by kernel_rfl
theorem mPop (q : Nat) (w : World) : (method 334 79 (.pointer (some ⟨q, 0, none⟩)) "Pop").run Tryz.prog w = .ok (201, .pointer (some ⟨q, 0, none⟩)) w := by kernel_rfl
set_option maxHeartbeats 4000000 in
theorem up_any (w : World) (X : Nat → Prop) (q gp gw : Nat) (vh : Value) (Q : Qu) (h : Qm w X q gp gw vh Q) (n : Nat) (ok : QOk n Q) (j : Nat) (hj : j < Q.hp.length) :
    Calls Tryz.prog 106 #[.iface 79 (.pointer (some ⟨q, 0, none⟩)), .int .i64 j] w fun e w' => e = .returned (.tuple #[]) ∧ Qm w' X q gp gw vh (Q.up j) ∧ Fr X w w' X := by
  have HJ0 : Hid (Qm w X q gp gw vh Q ∧ QOk n Q ∧ Fr X w w X ∧ Q.up j = Q.up j) := ⟨h, ok, Fr.refl _ _, rfl⟩
  have HLE : Hid (Q.hp.length ≤ 1000000) := ok.len
  clear h ok
  go_enter Tryz.func106, Tryz.ntmps106
  go_wp2_with fail
  go_loopw [1] (fun t wr => ∃ (k : Nat) (Q' : Qu), k < Q'.hp.length ∧ t = .int .i64 k ∧ Hid (Qm wr X q gp gw vh Q' ∧ QOk n Q' ∧ Fr X w wr X ∧ Q'.hp.length = Q.hp.length ∧ Q'.up k = Q.up j)) (fun t _ => (intOf t).toNat)
  case atStart => exact ⟨j, Q, hj, rfl, HJ0.out.1, HJ0.out.2.1, HJ0.out.2.2.1, rfl, rfl⟩
  case round =>
    obtain ⟨k, Q', hk, rfl, HJ⟩ := hrel
    have hk6 : k ≤ 1000000 := by have := HJ.out.2.1.len; omega
    cases k with
    | zero =>
      have HU : Hid (Q' = Q.up j) := (up_zero Q').symm.trans HJ.out.2.2.2.2
      go_wp2
      go_end0
      exact ⟨rfl, by rw [← HU.out]; exact HJ.out.1, HJ.out.2.2.1⟩
    | succ i =>
      have w1 := wrap_in ((i : Int) + 1 - 1) (by omega) (by omega)
      have hLS := less_any wr X q gp gw vh Q' HJ.out.1 n HJ.out.2.1 (i + 1) (i / 2) hk (by omega)
      have hd : ((i / 2 : Nat) : Int) = (i : Int) / 2 := by omega
      have hi1 : ((i + 1 : Nat) : Int) = (i : Int) + 1 := by omega
      rw [hd, hi1] at hLS
      have HLS := hide hLS
      have hml := mLess q
      have hms := mSwap q
      have hne : ((i : Int) / 2 == (i : Int) + 1) = false := beq_eq_false_iff_ne.2 (by omega)
      clear hLS
      go_wp2_with fail
      refine HLS.out.mono ?_
      rintro e w2 ⟨rfl, hb2⟩
      have HB2 := hide hb2
      clear hb2 HLS
      cases hls : Q'.less (i + 1) (i / 2)
      · have HU : Hid (Q' = Q.up j) := (up_stop (j := i + 1) hls).symm.trans HJ.out.2.2.2.2
        go_wp2
        go_end0
        exact ⟨rfl, by rw [← HU.out]; exact HJ.out.1.later HB2.out, HJ.out.2.2.1.trans (Fr.quiet HB2.out)⟩
      · have HU : Hid ((Q'.swap (i / 2) (i + 1)).up (i / 2) = Q.up j) := (up_step (j := i + 1) (by omega) hls).symm.trans HJ.out.2.2.2.2
        have hSW := swap_any w2 X q gp gw vh Q' (HJ.out.1.later HB2.out) n HJ.out.2.1 (i / 2) (i + 1) (by omega) hk
        rw [hd, hi1] at hSW
        have HSW := hide hSW
        clear hSW
        go_wp2_with fail
        refine HSW.out.mono ?_
        rintro e w3 ⟨rfl, hq3, hf3⟩
        have HQ3 := hide hq3
        have HF3 := hide ((HJ.out.2.2.1.trans (Fr.quiet HB2.out)).trans hf3)
        have HOK := hide (HJ.out.2.1.swap (i := i / 2) (j := i + 1) (by omega) hk)
        clear hq3 hf3 HSW
        go_wp2
        go_roundw
        case rel => exact ⟨i / 2, Q'.swap (i / 2) (i + 1), by simp [Qu.swap]; omega, by rw [hd], HQ3.out, HOK.out, HF3.out, by simp only [Qu.swap, List.length_set]; exact HJ.out.2.2.2.1, HU.out⟩
        case measure => simp [intOf]; omega
end Go.Proofs.YtkinmangilbeeaaGreatDoor.Sr

namespace Go.Proofs.YtkinmangilbeeaaGreatDoor.Sr
open Go.RowKit Go.Maps Go.Proofs.YtkinmangilbeeaaGreatDoor.Pf
set_option maxRecDepth 100000

/-- The heavier one of the two below. -/
def Qu.kid (Q : Qu) (i m : Nat) : Nat := if 2 * i + 1 + 1 < m then (if Q.less (2 * i + 1 + 1) (2 * i + 1) then 2 * i + 1 + 1 else 2 * i + 1) else 2 * i + 1
/-- One that is lighter than one below it goes down. -/
def dnN : Nat → Qu → Nat → Nat → Qu × Nat
  | 0, Q, i, _ => (Q, i)
  | f + 1, Q, i, m => if m ≤ 2 * i + 1 then (Q, i) else if Q.less (Q.kid i m) i then dnN f (Q.swap i (Q.kid i m)) (Q.kid i m) m else (Q, i)
def Qu.dn (Q : Qu) (i m : Nat) : Qu × Nat := dnN m Q i m
theorem dnN_succ (f : Nat) (Q : Qu) (i m : Nat) : dnN (f + 1) Q i m = if m ≤ 2 * i + 1 then (Q, i) else if Q.less (Q.kid i m) i then dnN f (Q.swap i (Q.kid i m)) (Q.kid i m) m else (Q, i) := rfl
theorem kid_lt {Q : Qu} {i m : Nat} (h : ¬ m ≤ 2 * i + 1) : i < Q.kid i m ∧ Q.kid i m < m := by
  unfold Qu.kid
  split
  · split <;> omega
  · omega
theorem dn_more : ∀ (f : Nat) (Q : Qu) (i m : Nat), m ≤ f + i → dnN (f + 1) Q i m = dnN f Q i m := by
  intro f
  induction f with
  | zero => intro Q i m h; rw [dnN_succ, if_pos (by omega)]; rfl
  | succ f ih =>
    intro Q i m h
    conv => lhs; rw [dnN_succ]
    conv => rhs; rw [dnN_succ]
    by_cases h0 : m ≤ 2 * i + 1
    · rw [if_pos h0, if_pos h0]
    · have := (kid_lt (Q := Q) h0).1
      rw [if_neg h0, if_neg h0, ih _ _ _ (by omega)]
theorem dn_fuel (Q : Qu) (i m : Nat) : ∀ d f, m ≤ f + i → dnN (f + d) Q i m = dnN f Q i m := by
  intro d
  induction d with
  | zero => intro f _; rfl
  | succ d ih => intro f h; rw [← ih f h]; exact dn_more (f + d) Q i m (by omega)
theorem dn_same (Q : Qu) (i m f g : Nat) (hf : m ≤ f + i) (hg : m ≤ g + i) : dnN f Q i m = dnN g Q i m := by
  rcases Nat.le_total f g with h | h
  · have := dn_fuel Q i m (g - f) f hf
    rw [show f + (g - f) = g by omega] at this
    exact this.symm
  · have := dn_fuel Q i m (f - g) g hg
    rw [show g + (f - g) = f by omega] at this
    exact this
theorem dn_end {Q : Qu} {i m : Nat} (h : m ≤ 2 * i + 1) : Q.dn i m = (Q, i) := by
  unfold Qu.dn
  rw [dn_same Q i m m (m + 1) (by omega) (by omega), dnN_succ, if_pos h]
theorem dn_stop {Q : Qu} {i m : Nat} (h : Q.less (Q.kid i m) i = false) : Q.dn i m = (Q, i) := by
  unfold Qu.dn
  rw [dn_same Q i m m (m + 1) (by omega) (by omega), dnN_succ]
  split
  · rfl
  · rw [if_neg (by simp [h])]
theorem dn_step {Q : Qu} {i m : Nat} (h0 : ¬ m ≤ 2 * i + 1) (h : Q.less (Q.kid i m) i = true) : Q.dn i m = (Q.swap i (Q.kid i m)).dn (Q.kid i m) m := by
  unfold Qu.dn
  rw [dn_same Q i m m (m + 1) (by omega) (by omega), dnN_succ, if_neg h0, if_pos h]
set_option maxHeartbeats 4000000 in
theorem down_any (w : World) (X : Nat → Prop) (q gp gw : Nat) (vh : Value) (Q : Qu) (h : Qm w X q gp gw vh Q) (n : Nat) (ok : QOk n Q) (i0 m : Nat) (hm : m ≤ Q.hp.length) (hi : i0 ≤ 1000000) :
    Calls Tryz.prog 105 #[.iface 79 (.pointer (some ⟨q, 0, none⟩)), .int .i64 i0, .int .i64 m] w fun e w' => e = .returned (.bool (decide (i0 < (Q.dn i0 m).2))) ∧ Qm w' X q gp gw vh (Q.dn i0 m).1 ∧ Fr X w w' X := by
  have HJ0 : Hid (Qm w X q gp gw vh Q ∧ QOk n Q ∧ Fr X w w X) := ⟨h, ok, Fr.refl _ _⟩
  have hm6 : m ≤ 1000000 := by have := ok.len; omega
  have hml := mLess q
  have hms := mSwap q
  clear h ok
  go_enter Tryz.func105, Tryz.ntmps105
  go_wp2_with fail
  go_loopw [7] (fun t wr => ∃ (k : Nat) (Q' : Qu), k ≤ 1000000 ∧ t = .int .i64 k ∧ Hid (Qm wr X q gp gw vh Q' ∧ QOk n Q' ∧ Fr X w wr X ∧ Q'.hp.length = Q.hp.length ∧ Q'.dn k m = Q.dn i0 m)) (fun t _ => m - (intOf t).toNat)
  case atStart => exact ⟨i0, Q, hi, rfl, HJ0.out.1, HJ0.out.2.1, HJ0.out.2.2, rfl, rfl⟩
  case round =>
    obtain ⟨k, Q', hk, rfl, HJ⟩ := hrel
    have w1 := wrap_in (2 * (k : Int)) (by omega) (by omega)
    have w2 := wrap_in (2 * (k : Int) + 1) (by omega) (by omega)
    have w3 := wrap_in (2 * (k : Int) + 1 + 1) (by omega) (by omega)
    have hn0 : ¬ (2 * (k : Int) + 1 < 0) := by omega
    have hlq : Q'.hp.length = Q.hp.length := HJ.out.2.2.2.1
    by_cases hmk : m ≤ 2 * k + 1
    · have hmi : (m : Int) ≤ 2 * (k : Int) + 1 := by omega
      have HU : Hid ((Q', k) = Q.dn i0 m) := (dn_end hmk).symm.trans HJ.out.2.2.2.2
      clear hmk
      go_wp2
      go_ret
      exact ⟨by rw [← HU.out]; rfl, by rw [← HU.out]; exact HJ.out.1, HJ.out.2.2.1⟩
    · have hmi : ¬ (m : Int) ≤ 2 * (k : Int) + 1 := by omega
      have j1 : ((2 * k + 1 : Nat) : Int) = 2 * (k : Int) + 1 := by omega
      have j2 : ((2 * k + 1 + 1 : Nat) : Int) = 2 * (k : Int) + 1 + 1 := by omega
      by_cases h2 : 2 * k + 1 + 1 < m
      · have h2i : 2 * (k : Int) + 1 + 1 < (m : Int) := by omega
        have hL1 := less_any wr X q gp gw vh Q' HJ.out.1 n HJ.out.2.1 (2 * k + 1 + 1) (2 * k + 1) (by omega) (by omega)
        rw [j1, j2] at hL1
        have HL1 := hide hL1
        clear hL1
        go_wp2_with fail
        refine HL1.out.mono ?_
        rintro e wa ⟨rfl, hba⟩
        have HBA := hide hba
        clear hba HL1
        cases hl1 : Q'.less (2 * k + 1 + 1) (2 * k + 1)
        · have HKk : Hid (Q'.kid k m = 2 * k + 1) := by unfold Hid Qu.kid; rw [if_pos h2, if_neg (by simp [hl1])]
          clear hl1
          have HKD : Hid (Q'.kid k m = 2 * k + 1) := HKk.out
          clear HKk
          have hLS := less_any wa X q gp gw vh Q' (HJ.out.1.later HBA.out) n HJ.out.2.1 (2 * k + 1) k (by omega) (by omega)
          rw [j1] at hLS
          have HLS := hide hLS
          clear hLS
          go_wp2_with fail
          refine HLS.out.mono ?_
          rintro e w3 ⟨rfl, hb3⟩
          have HB3 := hide (bthen HBA.out hb3)
          clear hb3 HLS
          cases hl2 : Q'.less (2 * k + 1) k
          · have HU : Hid ((Q', k) = Q.dn i0 m) := (dn_stop (by rw [HKD.out]; exact hl2)).symm.trans HJ.out.2.2.2.2
            go_wp2
            go_ret
            exact ⟨by rw [← HU.out]; rfl, by rw [← HU.out]; exact HJ.out.1.later HB3.out, HJ.out.2.2.1.trans (Fr.quiet HB3.out)⟩
          · have HU : Hid ((Q'.swap k (2 * k + 1)).dn (2 * k + 1) m = Q.dn i0 m) := by
              have h1 := dn_step (Q := Q') (i := k) (m := m) (by omega) (by rw [HKD.out]; exact hl2)
              rw [HKD.out] at h1
              exact h1.symm.trans HJ.out.2.2.2.2
            have hSW := swap_any w3 X q gp gw vh Q' (HJ.out.1.later HB3.out) n HJ.out.2.1 k (2 * k + 1) (by omega) (by omega)
            rw [j1] at hSW
            have HSW := hide hSW
            clear hSW
            go_wp2_with fail
            refine HSW.out.mono ?_
            rintro e w4 ⟨rfl, hq4, hf4⟩
            have HQ4 := hide hq4
            have HF4 := hide ((HJ.out.2.2.1.trans (Fr.quiet HB3.out)).trans hf4)
            have HOK := hide (HJ.out.2.1.swap (i := k) (j := 2 * k + 1) (by omega) (by omega))
            clear hq4 hf4 HSW
            go_wp2
            go_roundw
            case rel => exact ⟨2 * k + 1, Q'.swap k (2 * k + 1), by omega, by rw [j1], HQ4.out, HOK.out, HF4.out, by simp only [Qu.swap, List.length_set]; exact HJ.out.2.2.2.1, HU.out⟩
            case measure => simp [intOf]; omega
        · have HKk : Hid (Q'.kid k m = 2 * k + 1 + 1) := by unfold Hid Qu.kid; rw [if_pos h2, if_pos hl1]
          clear hl1
          have HKD : Hid (Q'.kid k m = 2 * k + 1 + 1) := HKk.out
          clear HKk
          have hLS := less_any wa X q gp gw vh Q' (HJ.out.1.later HBA.out) n HJ.out.2.1 (2 * k + 1 + 1) k (by omega) (by omega)
          rw [j2] at hLS
          have HLS := hide hLS
          clear hLS
          go_wp2_with fail
          refine HLS.out.mono ?_
          rintro e w3 ⟨rfl, hb3⟩
          have HB3 := hide (bthen HBA.out hb3)
          clear hb3 HLS
          cases hl2 : Q'.less (2 * k + 1 + 1) k
          · have HU : Hid ((Q', k) = Q.dn i0 m) := (dn_stop (by rw [HKD.out]; exact hl2)).symm.trans HJ.out.2.2.2.2
            go_wp2
            go_ret
            exact ⟨by rw [← HU.out]; rfl, by rw [← HU.out]; exact HJ.out.1.later HB3.out, HJ.out.2.2.1.trans (Fr.quiet HB3.out)⟩
          · have HU : Hid ((Q'.swap k (2 * k + 1 + 1)).dn (2 * k + 1 + 1) m = Q.dn i0 m) := by
              have h1 := dn_step (Q := Q') (i := k) (m := m) (by omega) (by rw [HKD.out]; exact hl2)
              rw [HKD.out] at h1
              exact h1.symm.trans HJ.out.2.2.2.2
            have hSW := swap_any w3 X q gp gw vh Q' (HJ.out.1.later HB3.out) n HJ.out.2.1 k (2 * k + 1 + 1) (by omega) (by omega)
            rw [j2] at hSW
            have HSW := hide hSW
            clear hSW
            go_wp2_with fail
            refine HSW.out.mono ?_
            rintro e w4 ⟨rfl, hq4, hf4⟩
            have HQ4 := hide hq4
            have HF4 := hide ((HJ.out.2.2.1.trans (Fr.quiet HB3.out)).trans hf4)
            have HOK := hide (HJ.out.2.1.swap (i := k) (j := 2 * k + 1 + 1) (by omega) (by omega))
            clear hq4 hf4 HSW
            go_wp2
            go_roundw
            case rel => exact ⟨2 * k + 1 + 1, Q'.swap k (2 * k + 1 + 1), by omega, by rw [j2], HQ4.out, HOK.out, HF4.out, by simp only [Qu.swap, List.length_set]; exact HJ.out.2.2.2.1, HU.out⟩
            case measure => simp [intOf]; omega
      · have h2i : ¬ 2 * (k : Int) + 1 + 1 < (m : Int) := by omega
        have HKk : Hid (Q'.kid k m = 2 * k + 1) := by unfold Hid Qu.kid; rw [if_neg h2]
        have HKD : Hid (Q'.kid k m = 2 * k + 1) := HKk.out
        clear HKk
        have hLS := less_any wr X q gp gw vh Q' (HJ.out.1.later (Below.refl _ wr)) n HJ.out.2.1 (2 * k + 1) k (by omega) (by omega)
        rw [j1] at hLS
        have HLS := hide hLS
        clear hLS
        go_wp2_with fail
        refine HLS.out.mono ?_
        rintro e w3 ⟨rfl, hb3⟩
        have HB3 := hide (bthen (Below.refl _ wr) hb3)
        clear hb3 HLS
        cases hl2 : Q'.less (2 * k + 1) k
        · have HU : Hid ((Q', k) = Q.dn i0 m) := (dn_stop (by rw [HKD.out]; exact hl2)).symm.trans HJ.out.2.2.2.2
          go_wp2
          go_ret
          exact ⟨by rw [← HU.out]; rfl, by rw [← HU.out]; exact HJ.out.1.later HB3.out, HJ.out.2.2.1.trans (Fr.quiet HB3.out)⟩
        · have HU : Hid ((Q'.swap k (2 * k + 1)).dn (2 * k + 1) m = Q.dn i0 m) := by
            have h1 := dn_step (Q := Q') (i := k) (m := m) (by omega) (by rw [HKD.out]; exact hl2)
            rw [HKD.out] at h1
            exact h1.symm.trans HJ.out.2.2.2.2
          have hSW := swap_any w3 X q gp gw vh Q' (HJ.out.1.later HB3.out) n HJ.out.2.1 k (2 * k + 1) (by omega) (by omega)
          rw [j1] at hSW
          have HSW := hide hSW
          clear hSW
          go_wp2_with fail
          refine HSW.out.mono ?_
          rintro e w4 ⟨rfl, hq4, hf4⟩
          have HQ4 := hide hq4
          have HF4 := hide ((HJ.out.2.2.1.trans (Fr.quiet HB3.out)).trans hf4)
          have HOK := hide (HJ.out.2.1.swap (i := k) (j := 2 * k + 1) (by omega) (by omega))
          clear hq4 hf4 HSW
          go_wp2
          go_roundw
          case rel => exact ⟨2 * k + 1, Q'.swap k (2 * k + 1), by omega, by rw [j1], HQ4.out, HOK.out, HF4.out, by simp only [Qu.swap, List.length_set]; exact HJ.out.2.2.2.1, HU.out⟩
          case measure => simp [intOf]; omega
end Go.Proofs.YtkinmangilbeeaaGreatDoor.Sr
