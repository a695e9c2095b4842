/- text.each: who is told of a node's numbers, in order. -/
import Derived.Test.YtabnimgpednhjaaDoorWaM
import Derived.BigQuiet
namespace Go.Proofs.YtabnimgpednhjaaDoor
open Go.RowKit
set_option maxRecDepth 100000

theorem bdn {B : Nat} {a w : World} (h : Below B a w) (n : Nat) : Below B a (w.drewN n) := ⟨h.os, h.tape, h.output, h.size, h.block⟩
theorem takes_bd (k : Int) : 0 ≤ Ev.takes k ∧ Ev.takes k ≤ 3 := by
  unfold Ev.takes
  split
  · decide
  · split
    · decide
    · split <;> decide
def hasN (k : Int) : Bool := decide (k = 1) || decide (k = 21)
theorem hasN_any (k : Int) (w : World) : Calls Tryd.prog 50 #[.int .i64 k] w fun e w' => e = .returned (.bool (hasN k)) ∧ w' = w := by
  go_enter Tryd.func50, Tryd.ntmps50
  go_wp2
  all_goals
    go_ret
    exact ⟨congrArg (fun b => Ending.returned (.bool b)) (by unfold hasN; first | rfl | (simp_all) | (simp; omega)), rfl⟩
/-- How many numbers stand behind the kind's word. -/
def manyN (k : Int) : Nat := 1 + (Ev.takes k).toNat + if hasN k then 1 else 0
/-- Where the j-th of them lies in a node. -/
def offN (k : Int) (j : Nat) : Nat := if j ≤ (Ev.takes k).toNat then j + 1 else 5

set_option maxHeartbeats 8000000 in
theorem each_any (fn : FuncId) (c : Value) (nb base : Nat) (k : Int) (J : Nat → World → Prop) (w : World) (hJ : J 0 w)
    (hst : ∀ j w1 w2, J j w1 → Below w1.heap.size w1 w2 → J j w2) (hkd : ∀ j w1, J j w1 → w1.cell? ⟨nb, 0, none⟩ = some (.int .i64 k) ∧ base ≤ w1.heap.size)
    (hent : ∀ (args : Array Value) (w : World), (callFunc fn args).run Tryd.prog w = .ok (.enter fn args) w)
    (hcl : ∀ j w1, j < manyN k → J j w1 → Calls Tryd.prog fn #[.pointer (some ⟨nb, offN k j, none⟩), c] w1 fun e w' => e = .returned (.tuple #[]) ∧ J (j + 1) w' ∧ Below base w1 w') :
    Calls Tryd.prog 23 #[.pointer (some ⟨nb, 0, none⟩), .func (.func fn) #[] #[c]] w fun e w' => e = .returned (.tuple #[]) ∧ J (manyN k) w' ∧ Below base w w' := by
  have ht := takes_bd k
  obtain ⟨T, hT⟩ : ∃ T : Nat, Ev.takes k = T := ⟨(Ev.takes k).toNat, by omega⟩
  have hT3 : T ≤ 3 := by omega
  have hO : ∀ j, j ≤ T → offN k j = j + 1 := fun j h => by unfold offN; rw [hT]; simp [h]
  have hM : manyN k = 1 + T + if hasN k then 1 else 0 := by unfold manyN; rw [hT]; simp
  have HST := hide hst
  have HKD := hide hkd
  have HC0 := hide (hcl 0 w (by omega) hJ)
  rw [hO 0 (by omega)] at HC0
  have HCL : Hid (∀ j w1, 1 ≤ j → j ≤ T → J j w1 → Calls Tryd.prog fn #[.pointer (some ⟨nb, j + 1, none⟩), c] w1 fun e w' => e = .returned (.tuple #[]) ∧ J (j + 1) w' ∧ Below base w1 w') := fun j w1 h1 h2 h3 => by
    have := hcl j w1 (by omega) h3
    rw [hO j h2] at this
    exact this
  have HCN : Hid (hasN k = true → ∀ w1, J (T + 1) w1 → Calls Tryd.prog fn #[.pointer (some ⟨nb, 5, none⟩), c] w1 fun e w' => e = .returned (.tuple #[]) ∧ J (T + 1 + 1) w' ∧ Below base w1 w') := fun h w1 h3 => by
    have := hcl (T + 1) w1 (by rw [hM, h]; simp) h3
    rw [show offN k (T + 1) = 5 by unfold offN; rw [hT, if_neg (by simp)]] at this
    exact this
  have HWD := hide (fun w => Ev.words_any k w)
  rw [hT] at HWD
  have HHN := hide (hasN_any k)
  have HEN := hide hent
  rw [hM]
  clear hst hkd hcl hJ hM ht hT hO
  generalize hasN k = hn at *
  go_enter Tryd.func23, Tryd.ntmps23
  have hen := HEN.out
  go_wp2_with fail
  refine HC0.out.mono ?_
  rintro e w1 ⟨rfl, hj1, hb1⟩
  have HJ1 := hide hj1
  have HB1 := hide hb1
  clear hj1 hb1 HC0
  go_wp2
  go_quiet (fail)
  have HJ2 := hide (HST.out 1 w1 (w1.drewN nq) HJ1.out (bdn (Below.refl _ w1) nq))
  have HB2 := hide (bdn HB1.out nq)
  generalize w1.drewN nq = w2 at *
  clear HJ1 HB1
  have i0 : ∀ w : World, (Instr.index 95 (.agg #[.pointer (some ⟨nb, 2, none⟩), .pointer (some ⟨nb, 3, none⟩), .pointer (some ⟨nb, 4, none⟩)]) (.int .i64 0)).run Tryd.prog w = .ok (.pointer (some ⟨nb, 2, none⟩)) w := fun _ => by kernel_rfl
  have i1 : ∀ w : World, (Instr.index 95 (.agg #[.pointer (some ⟨nb, 2, none⟩), .pointer (some ⟨nb, 3, none⟩), .pointer (some ⟨nb, 4, none⟩)]) (.int .i64 1)).run Tryd.prog w = .ok (.pointer (some ⟨nb, 3, none⟩)) w := fun _ => by kernel_rfl
  have i2 : ∀ w : World, (Instr.index 95 (.agg #[.pointer (some ⟨nb, 2, none⟩), .pointer (some ⟨nb, 3, none⟩), .pointer (some ⟨nb, 4, none⟩)]) (.int .i64 2)).run Tryd.prog w = .ok (.pointer (some ⟨nb, 4, none⟩)) w := fun _ => by kernel_rfl
  go_wp2
  go_loopw [21] (fun i wr => ∃ q : Nat, q ≤ 3 ∧ i = .int .i64 q ∧ Hid (J (1 + min q T) wr) ∧ Hid (Below base w wr)) (fun i _ => 3 - (intOf i).toNat)
  case atStart => exact ⟨0, by omega, rfl, by show J (1 + min 0 T) w2; rw [Nat.zero_min]; exact HJ2.out, HB2⟩
  case round =>
    clear HJ2 HB2
    obtain ⟨q, hq, rfl, HJ, HB⟩ := hrel
    have hkc := (HKD.out _ _ HJ.out).1
    by_cases hq3 : q < 3
    · have step : ∀ q : Nat, q < 3 → Hid (J (1 + min q T) wr) → Hid (q < T → Calls Tryd.prog fn #[.pointer (some ⟨nb, q + 2, none⟩), c] wr fun e w' => e = .returned (.tuple #[]) ∧ J (1 + min (q + 1) T) w' ∧ Below base wr w') := fun q hq h hlt => by
        have h' := h.out
        rw [Nat.min_eq_left (by omega)] at h'
        have := HCL.out (1 + q) wr (by omega) (by omega) h'
        rw [show 1 + q + 1 = q + 2 by omega] at this
        rw [show 1 + min (q + 1) T = q + 2 by omega]
        exact this
      have HS := step q hq3 HJ
      have HNO : Hid (¬ q < T → J (1 + min (q + 1) T) wr) := fun h => by have := HJ.out; rw [show 1 + min (q + 1) T = 1 + min q T by omega]; exact this
      clear step HJ HCL
      by_cases hlt : q < T
      · have HC := hide (HS.out hlt)
        have hqt : (q : Int) < (T : Int) := by omega
        clear HS HNO hlt
        obtain rfl | rfl | rfl : q = 0 ∨ q = 1 ∨ q = 2 := by omega
        · go_wp2_with fail
          refine (HWD.out _).mono ?_
          rintro e w5 ⟨rfl, rfl⟩
          go_wp2_with fail
          refine HC.out.mono ?_
          rintro e w6 ⟨rfl, hj6, hb6⟩
          have HJ6 := hide hj6
          have HB6 := hide (HB.out.trans hb6)
          clear hj6 hb6 HC HB
          go_wp2
          go_roundw
          case rel => exact ⟨1, by omega, rfl, HJ6, HB6⟩
          case measure => simp [intOf]
        · go_wp2_with fail
          refine (HWD.out _).mono ?_
          rintro e w5 ⟨rfl, rfl⟩
          go_wp2_with fail
          refine HC.out.mono ?_
          rintro e w6 ⟨rfl, hj6, hb6⟩
          have HJ6 := hide hj6
          have HB6 := hide (HB.out.trans hb6)
          clear hj6 hb6 HC HB
          go_wp2
          go_roundw
          case rel => exact ⟨2, by omega, rfl, HJ6, HB6⟩
          case measure => simp [intOf]
        · go_wp2_with fail
          refine (HWD.out _).mono ?_
          rintro e w5 ⟨rfl, rfl⟩
          go_wp2_with fail
          refine HC.out.mono ?_
          rintro e w6 ⟨rfl, hj6, hb6⟩
          have HJ6 := hide hj6
          have HB6 := hide (HB.out.trans hb6)
          clear hj6 hb6 HC HB
          go_wp2
          go_roundw
          case rel => exact ⟨3, by omega, rfl, HJ6, HB6⟩
          case measure => simp [intOf]
      · have HJ6 := hide (HNO.out hlt)
        have hqt : ¬ (q : Int) < (T : Int) := by omega
        clear HS HNO hlt
        obtain rfl | rfl | rfl : q = 0 ∨ q = 1 ∨ q = 2 := by omega
        · go_wp2_with fail
          refine (HWD.out _).mono ?_
          rintro e w5 ⟨rfl, rfl⟩
          go_wp2
          go_roundw
          case rel => exact ⟨1, by omega, rfl, HJ6, HB⟩
          case measure => simp [intOf]
        · go_wp2_with fail
          refine (HWD.out _).mono ?_
          rintro e w5 ⟨rfl, rfl⟩
          go_wp2
          go_roundw
          case rel => exact ⟨2, by omega, rfl, HJ6, HB⟩
          case measure => simp [intOf]
        · go_wp2_with fail
          refine (HWD.out _).mono ?_
          rintro e w5 ⟨rfl, rfl⟩
          go_wp2
          go_roundw
          case rel => exact ⟨3, by omega, rfl, HJ6, HB⟩
          case measure => simp [intOf]
    · obtain rfl : q = 3 := by omega
      have HJ3 : Hid (J (T + 1) wr) := by have := HJ.out; rw [show 1 + min 3 T = T + 1 by omega] at this; exact this
      clear HJ hq3
      cases hn
      · go_wp2_with fail
        refine (HHN.out _).mono ?_
        rintro e w5 ⟨rfl, rfl⟩
        go_wp2
        go_end0
        exact ⟨rfl, by have := HJ3.out; rw [show T + 1 = 1 + T by omega] at this; simpa using this, HB.out⟩
      · have HC := hide (HCN.out rfl wr HJ3.out)
        go_wp2_with fail
        refine (HHN.out _).mono ?_
        rintro e w5 ⟨rfl, rfl⟩
        go_wp2_with fail
        refine HC.out.mono ?_
        rintro e w6 ⟨rfl, hj6, hb6⟩
        have HJ6 := hide hj6
        have HB6 := hide (HB.out.trans hb6)
        clear hj6 hb6 HC HB
        go_wp2
        go_end0
        exact ⟨rfl, by have := HJ6.out; rw [show T + 1 + 1 = 1 + T + 1 by omega] at this; simpa using this, HB6.out⟩
end Go.Proofs.YtabnimgpednhjaaDoor
