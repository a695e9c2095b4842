/- The plain text: nodes of a kind, their bits; lists that are the same. -/
import Derived.Test.YtjhkecnnhddhbaaGreatDoorMn
namespace Go.Proofs.YtjhkecnnhddhbaaGreatDoor.Ev
open Go.RowKit
set_option maxRecDepth 100000
set_option maxRecDepth 100000

/-- The bits of the first k nodes of a kind. -/
theorem sum_sel (ns : List Nd) (kind : Int) (k : Nat) : sumW ns (sel (isK ns kind) (k + 1)) = sumW ns (sel (isK ns kind) k) + if isK ns kind k then wdOf ns k else 0 := by
  cases h : isK ns kind k
  · rw [sel_no h]; simp
  · rw [sel_yes h]
    unfold sumW
    simp only [List.map_append, List.sum_append, List.map_cons, List.map_nil, List.sum_cons, List.sum_nil]
    simp

theorem sum_sel_bd {ns : List Nd} (h : Wok ns) (kind : Int) (k : Nat) : 0 ≤ sumW ns (sel (isK ns kind) k) ∧ sumW ns (sel (isK ns kind) k) ≤ 8 * k := by
  induction k with
  | zero => simp [sumW, sel]
  | succ k ih =>
    rw [sum_sel]
    have := wdOf_bd h k
    split <;> omega

end Go.Proofs.YtjhkecnnhddhbaaGreatDoor.Ev
