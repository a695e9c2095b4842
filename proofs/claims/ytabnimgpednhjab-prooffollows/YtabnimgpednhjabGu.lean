/- Gates: sameBools only reads. -/
import Derived.Test.YtabnimgpednhjabGc
namespace Go.Proofs.Ytabnimgpednhjab
open Go.RowKit Go.Maps Go.WideMaps
set_option maxRecDepth 100000

theorem drewN_add (w : World) (n m : Nat) : (w.drewN n).drewN m = w.drewN (n + m) := by simp

set_option maxHeartbeats 1000000 in
theorem sameBools_quiet (u v : List Bool) (p q : Option Addr) (pc qc : Nat) (hl : u.length ≤ maxLen) (w : World) (hU : BoolsAt w p u) (hV : BoolsAt w q v) :
    Calls Try.prog 20 #[.slice p u.length pc, .slice q v.length qc] w fun r w' => r = .returned (.bool (decide (u = v))) ∧ ∃ n, w' = w.drewN n := by
  unfold maxLen at hl
  by_cases hn : u.length = v.length
  · have hn' : (u.length : Int) = (v.length : Int) := by omega
    have HN := hide hn
    rw [show v.length = u.length from hn.symm]
    clear hn hn'
    go_enter Try.func20, Try.ntmps20
    go_wp2
    go_loopw [5] (fun i wr => ∃ k : Nat, k ≤ u.length ∧ i = .int .i64 k ∧ Hid (∀ i (hi : i < u.length) (hj : i < v.length), i < k → u[i] = v[i]) ∧ ∃ n, wr = w.drewN n) (fun i _ => u.length - (intOf i).toNat)
    case atStart => exact ⟨0, Nat.zero_le _, rfl, fun i hi hj h => by omega, 0, rfl⟩
    case round =>
      obtain ⟨k, hk, rfl, hno, nn, hw⟩ := hrel
      have HW := hide hw
      have hbw : Below w.heap.size w wr := by rw [hw]; exact bdn (Below.refl _ _) nn
      clear hw
      by_cases hlt : k < u.length
      · have hlt2 : k < v.length := by rw [← HN.out]; exact hlt
        obtain ⟨b1, o1, rfl, hc1⟩ := (hU.later hbw) (by omega)
        obtain ⟨b2, o2, rfl, hc2⟩ := (hV.later hbw) (by omega)
        have c0 := hc1 k hlt
        have d0 := hc2 k hlt2
        have hki : (k : Int) < (u.length : Int) := by omega
        have HNN : Hid (u[k] = v[k] → ∀ i (hi : i < u.length) (hj : i < v.length), i < k + 1 → u[i] = v[i]) := by
          intro he i hi hj h
          rcases Nat.lt_succ_iff_lt_or_eq.1 h with h1 | rfl
          · exact hno.out i hi hj h1
          · exact he
        have HX : Hid (u[k] ≠ v[k] → decide (u = v) = false) := by
          intro hne
          rw [decide_eq_false_iff_not]
          intro e
          subst e
          exact hne rfl
        clear hc1 hc2 hno
        generalize u[k] = x at *
        generalize v[k] = y at *
        by_cases hxy : x = y
        · subst hxy
          have HK := hide (HNN.out rfl)
          have hxx : (x != x) = false := by simp
          clear HNN HX
          go_wp2
          go_quiet (fail)
          go_wp2
          go_roundw
          case rel => exact ⟨k + 1, by omega, by go_num, HK, _, by rw [HW.out]; exact drewN_add _ _ _⟩
          case measure => simp [intOf]; omega
        · have HK := hide (HX.out hxy)
          have hxx : (x == y) = false := by simpa using hxy
          clear HNN HX hxy
          go_wp2
          go_quiet (fail)
          go_wp2
          go_ret
          exact ⟨ret_bool HK.out.symm, _, by rw [HW.out]; exact drewN_add _ _ _⟩
      · have HK : Hid (decide (u = v) = true) := by
          rw [Hid, decide_eq_true_iff]
          exact List.ext_getElem HN.out fun i hi hj => hno.out i hi hj (by omega)
        go_wp2
        go_ret
        exact ⟨ret_bool HK.out.symm, _, HW.out⟩
  · have hn' : ¬ (u.length : Int) = (v.length : Int) := by omega
    have HK : Hid (decide (u = v) = false) := by
      rw [Hid, decide_eq_false_iff_not]; intro e; exact hn (by rw [e])
    have hx : ((u.length : Int) != (v.length : Int)) = true := by simpa using hn'
    clear hn hn'
    go_enter Try.func20, Try.ntmps20
    go_wp2
    go_ret
    exact ⟨ret_bool HK.out.symm, 0, rfl⟩

end Go.Proofs.Ytabnimgpednhjab
