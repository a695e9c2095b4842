/- A queue's heap: up. -/
import Derived.Test.YtjhkecnnhddhbaaGreatDoorJc
namespace Go.Proofs.YtjhkecnnhddhbaaGreatDoor.Sr
open Go.RowKit Go.Maps Go.Proofs.YtjhkecnnhddhbaaGreatDoor.Pf
set_option maxRecDepth 100000
set_option autoImplicit false

/-- One that is heavier than the one above it goes up. -/
def upN : Nat → Qu → Nat → Qu
  | 0, Q, _ => Q
  | f + 1, Q, j => if j = 0 then Q else if Q.less j ((j - 1) / 2) then upN f (Q.swap ((j - 1) / 2) j) ((j - 1) / 2) else Q
def Qu.up (Q : Qu) (j : Nat) : Qu := upN (j + 1) Q j
theorem upN_succ (f : Nat) (Q : Qu) (j : Nat) : upN (f + 1) Q j = if j = 0 then Q else if Q.less j ((j - 1) / 2) then upN f (Q.swap ((j - 1) / 2) j) ((j - 1) / 2) else Q := rfl
theorem up_more : ∀ (f : Nat) (Q : Qu) (j : Nat), j + 1 ≤ f → upN (f + 1) Q j = upN f Q j := by
  intro f
  induction f with
  | zero => intro Q j h; omega
  | succ f ih =>
    intro Q j h
    conv => lhs; rw [upN_succ]
    conv => rhs; rw [upN_succ]
    by_cases h0 : j = 0
    · rw [if_pos h0, if_pos h0]
    · rw [if_neg h0, if_neg h0, ih _ _ (by omega)]
theorem up_fuel {f : Nat} (Q : Qu) {j : Nat} (h : j + 1 ≤ f) : upN f Q j = Q.up j := by
  obtain ⟨d, rfl⟩ : ∃ d, f = j + 1 + d := ⟨f - (j + 1), by omega⟩
  clear h
  induction d with
  | zero => rfl
  | succ d ih => rw [← ih]; exact up_more (j + 1 + d) Q j (by omega)
theorem up_step {Q : Qu} {j : Nat} (h0 : j ≠ 0) (h : Q.less j ((j - 1) / 2) = true) : Q.up j = (Q.swap ((j - 1) / 2) j).up ((j - 1) / 2) := by
  unfold Qu.up
  rw [upN, if_neg h0, if_pos h]
  exact up_fuel _ (by omega)
theorem up_zero (Q : Qu) : Q.up 0 = Q := by unfold Qu.up; rw [upN, if_pos rfl]
theorem up_stop {Q : Qu} {j : Nat} (h : Q.less j ((j - 1) / 2) = false) : Q.up j = Q := by
  unfold Qu.up
  rw [upN]
  split
  · rfl
  · rw [if_neg (by simp [h])]
theorem mLess (q : Nat) (w : World) : (method 461 201 (.pointer (some ⟨q, 0, none⟩)) "Less").run Tryz.prog w = .ok (351, .pointer (some ⟨q, 0, none⟩)) w := by kernel_rfl
theorem mSwap (q : Nat) (w : World) : (method 461 201 (.pointer (some ⟨q, 0, none⟩)) "Swap").run Tryz.prog w = .ok (353, .pointer (some ⟨q, 0, none⟩)) w := by kernel_rfl
theorem mLen (q : Nat) (w : World) : (method 461 201 (.pointer (some ⟨q, 0, none⟩)) "Len").run Tryz.prog w = .ok (201, .pointer (some ⟨q, 0, none⟩)) w := by kernel_rfl
theorem mPush (q : Nat) (w : World) : (method 461 201 (.pointer (some ⟨q, 0, none⟩)) "Push").run Tryz.prog w = .ok (193, .pointer (some ⟨q, 0, none⟩)) w := by kernel_rfl
theorem mPop (q : Nat) (w : World) : (method 461 201 (.pointer (some ⟨q, 0, none⟩)) "Pop").run Tryz.prog w = .ok (352, .pointer (some ⟨q, 0, none⟩)) w := by kernel_rfl
set_option maxHeartbeats 4000000 in
theorem up_any (w : World) (X : Nat → Prop) (q gp gw : Nat) (vh : Value) (Q : Qu) (h : Qm w X q gp gw vh Q) (n : Nat) (ok : QOk n Q) (j : Nat) (hj : j < Q.hp.length) :
    Calls Tryz.prog 245 #[.iface 201 (.pointer (some ⟨q, 0, none⟩)), .int .i64 j] w fun e w' => e = .returned (.tuple #[]) ∧ Qm w' X q gp gw vh (Q.up j) ∧ Fr X w w' X := by
  have HJ0 : Hid (Qm w X q gp gw vh Q ∧ QOk n Q ∧ Fr X w w X ∧ Q.up j = Q.up j) := ⟨h, ok, Fr.refl _ _, rfl⟩
  have HLE : Hid (Q.hp.length ≤ 1000000) := ok.len
  clear h ok
  go_enter Tryz.func245, Tryz.ntmps245
  go_wp2_with fail
  go_loopw [1] (fun t wr => ∃ (k : Nat) (Q' : Qu), k < Q'.hp.length ∧ t = .int .i64 k ∧ Hid (Qm wr X q gp gw vh Q' ∧ QOk n Q' ∧ Fr X w wr X ∧ Q'.hp.length = Q.hp.length ∧ Q'.up k = Q.up j)) (fun t _ => (intOf t).toNat)
  case atStart => exact ⟨j, Q, hj, rfl, HJ0.out.1, HJ0.out.2.1, HJ0.out.2.2.1, rfl, rfl⟩
  case round =>
    obtain ⟨k, Q', hk, rfl, HJ⟩ := hrel
    have hk6 : k ≤ 1000000 := by have := HJ.out.2.1.len; omega
    cases k with
    | zero =>
      have HU : Hid (Q' = Q.up j) := (up_zero Q').symm.trans HJ.out.2.2.2.2
      go_wp2
      go_end0
      exact ⟨rfl, by rw [← HU.out]; exact HJ.out.1, HJ.out.2.2.1⟩
    | succ i =>
      have w1 := wrap_in ((i : Int) + 1 - 1) (by omega) (by omega)
      have hLS := less_any wr X q gp gw vh Q' HJ.out.1 n HJ.out.2.1 (i + 1) (i / 2) hk (by omega)
      have hd : ((i / 2 : Nat) : Int) = (i : Int) / 2 := by omega
      have hi1 : ((i + 1 : Nat) : Int) = (i : Int) + 1 := by omega
      rw [hd, hi1] at hLS
      have HLS := hide hLS
      have hml := mLess q
      have hms := mSwap q
      have hne : ((i : Int) / 2 == (i : Int) + 1) = false := beq_eq_false_iff_ne.2 (by omega)
      clear hLS
      go_wp2_with fail
      refine HLS.out.mono ?_
      rintro e w2 ⟨rfl, hb2⟩
      have HB2 := hide hb2
      clear hb2 HLS
      cases hls : Q'.less (i + 1) (i / 2)
      · have HU : Hid (Q' = Q.up j) := (up_stop (j := i + 1) hls).symm.trans HJ.out.2.2.2.2
        go_wp2
        go_end0
        exact ⟨rfl, by rw [← HU.out]; exact HJ.out.1.later HB2.out, HJ.out.2.2.1.trans (Fr.quiet HB2.out)⟩
      · have HU : Hid ((Q'.swap (i / 2) (i + 1)).up (i / 2) = Q.up j) := (up_step (j := i + 1) (by omega) hls).symm.trans HJ.out.2.2.2.2
        have hSW := swap_any w2 X q gp gw vh Q' (HJ.out.1.later HB2.out) n HJ.out.2.1 (i / 2) (i + 1) (by omega) hk
        rw [hd, hi1] at hSW
        have HSW := hide hSW
        clear hSW
        go_wp2_with fail
        refine HSW.out.mono ?_
        rintro e w3 ⟨rfl, hq3, hf3⟩
        have HQ3 := hide hq3
        have HF3 := hide ((HJ.out.2.2.1.trans (Fr.quiet HB2.out)).trans hf3)
        have HOK := hide (HJ.out.2.1.swap (i := i / 2) (j := i + 1) (by omega) hk)
        clear hq3 hf3 HSW
        go_wp2
        go_roundw
        case rel => exact ⟨i / 2, Q'.swap (i / 2) (i + 1), by simp [Qu.swap]; omega, by rw [hd], HQ3.out, HOK.out, HF3.out, by simp only [Qu.swap, List.length_set]; exact HJ.out.2.2.2.1, HU.out⟩
        case measure => simp [intOf]; omega
end Go.Proofs.YtjhkecnnhddhbaaGreatDoor.Sr
