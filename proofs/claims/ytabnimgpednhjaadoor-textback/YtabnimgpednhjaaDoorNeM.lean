/- The plain text: a node is checked. -/
import Derived.Test.YtabnimgpednhjaaDoorMn
namespace Go.Proofs.YtabnimgpednhjaaDoor.Ev
open Go.RowKit
set_option maxRecDepth 100000

end Go.Proofs.YtabnimgpednhjaaDoor.Ev

namespace Go.Proofs.YtabnimgpednhjaaDoor.Ev
open Go.RowKit
set_option maxRecDepth 100000

theorem btw_isW (n v : Int) (hv : 0 ≤ v ∧ v ≤ 8) : btw n 0 (wrap64 (two v - 1)) = isW n v := by
  have := two_bd hv
  rw [show wrap64 (two v - 1) = two v - 1 from by unfold wrap64; omega, Bool.eq_iff_iff, btw_true, isW_iff]
  omega


end Go.Proofs.YtabnimgpednhjaaDoor.Ev

namespace Go.Proofs.YtabnimgpednhjaaDoor.Ev
open Go.RowKit
set_option maxRecDepth 100000

end Go.Proofs.YtabnimgpednhjaaDoor.Ev

namespace Go.Proofs.YtabnimgpednhjaaDoor.Ev
open Go.RowKit
set_option maxRecDepth 100000

/-- The bits of the first k nodes of a kind. -/
theorem sum_sel (ns : List Nd) (kind : Int) (k : Nat) : sumW ns (sel (isK ns kind) (k + 1)) = sumW ns (sel (isK ns kind) k) + if isK ns kind k then wdOf ns k else 0 := by
  cases h : isK ns kind k
  · rw [sel_no h]; simp
  · rw [sel_yes h]
    unfold sumW
    simp only [List.map_append, List.sum_append, List.map_cons, List.map_nil, List.sum_cons, List.sum_nil]
    simp

theorem sum_sel_bd {ns : List Nd} (h : Wok ns) (kind : Int) (k : Nat) : 0 ≤ sumW ns (sel (isK ns kind) k) ∧ sumW ns (sel (isK ns kind) k) ≤ 8 * k := by
  induction k with
  | zero => simp [sumW, sel]
  | succ k ih =>
    rw [sum_sel]
    have := wdOf_bd h k
    split <;> omega

set_option maxRecDepth 100000 in
set_option maxHeartbeats 1000000 in
theorem sameInts_any (p q : Option Addr) (cp cq : Nat) (l r : List Int) (hl : l.length ≤ maxLen) (hr : r.length ≤ maxLen) (w : World) (hP : IntsAt w p l) (hQ : IntsAt w q r) :
    Calls Tryd.prog 17 #[.slice p l.length cp, .slice q r.length cq] w fun e w' => e = .returned (.bool (decide (l = r))) ∧ Below w.heap.size w w' := by
  unfold maxLen at hl hr
  by_cases hlen : l.length = r.length
  · have hne : ((l.length : Int) != (r.length : Int)) = false := by simp [hlen]
    have HL := hide hlen
    clear hlen
    go_enter Tryd.func17, Tryd.ntmps17
    go_wp2
    go_loopw [5] (fun i wr => ∃ k : Nat, k ≤ l.length ∧ i = .int .i64 k ∧ Below w.heap.size w wr ∧ Hid (∀ i (h1 : i < l.length) (h2 : i < r.length), i < k → l[i] = r[i])) (fun i _ => l.length - (intOf i).toNat)
    case atStart => exact ⟨0, Nat.zero_le _, rfl, Below.refl _ _, fun i h1 h2 h => by omega⟩
    case round =>
      obtain ⟨k, hk, rfl, hbw, hz⟩ := hrel
      by_cases hlt : k < l.length
      · have hlt2 : k < r.length := by have := HL.out; omega
        obtain ⟨b, off, rfl, hc⟩ := (hP.later hbw) (by omega)
        obtain ⟨b2, off2, rfl, hc2⟩ := (hQ.later hbw) (by omega)
        have d0 := hc k hlt
        have d1 := hc2 k hlt2
        have hi1 : (k : Int) < (l.length : Int) := by omega
        have hi2 : (k : Int) < (r.length : Int) := by omega
        have HN : Hid (l[k] = r[k] → ∀ i (h1 : i < l.length) (h2 : i < r.length), i < k + 1 → l[i] = r[i]) := by
          intro h i h1 h2 hik
          rcases Nat.lt_succ_iff_lt_or_eq.1 hik with h3 | rfl
          · exact hz.out i h1 h2 h3
          · exact h
        have HD : Hid (l[k] ≠ r[k] → decide (l = r) = false) := by
          intro h
          refine decide_eq_false (fun e => h ?_)
          subst e
          rfl
        clear hc hc2 hz
        generalize l[k] = x at *
        generalize r[k] = y at *
        by_cases hxy : x = y
        · have e1 : (x != y) = false := by simp [hxy]
          have HN2 := hide (HN.out hxy)
          clear hxy HN HD
          go_wp2
          go_quiet (fail)
          go_wp2
          go_roundw
          case rel => exact ⟨k + 1, by omega, by go_num, below_drewN hbw _, HN2⟩
          case measure => simp [intOf]; omega
        · have e1 : (x != y) = true := by simp [hxy]
          have HD2 := hide (HD.out hxy)
          clear hxy HN HD
          go_wp2
          go_quiet (fail)
          go_wp2
          go_ret
          exact ⟨ret_bool HD2.out.symm, below_drewN hbw _⟩
      · have HD : Hid (decide (l = r) = true) := by
          refine decide_eq_true (List.ext_getElem HL.out (fun i h1 h2 => hz.out i h1 h2 (by omega)))
        clear hz
        go_wp2
        go_ret
        exact ⟨ret_bool HD.out.symm, hbw⟩
  · have hne : ((l.length : Int) != (r.length : Int)) = true := by simp; omega
    have HD : Hid (decide (l = r) = false) := decide_eq_false (fun e => hlen (by rw [e]))
    clear hlen
    go_enter Tryd.func17, Tryd.ntmps17
    go_wp2
    go_ret
    exact ⟨ret_bool HD.out.symm, Below.refl _ _⟩

end Go.Proofs.YtabnimgpednhjaaDoor.Ev

namespace Go.Proofs.YtabnimgpednhjaaDoor.Ev
open Go.RowKit
set_option maxRecDepth 100000

end Go.Proofs.YtabnimgpednhjaaDoor.Ev
