/- The causes of a clause: the function that hands them over. -/
import Derived.Test.YtjhkecnnhddhbaaGreatDoorLg
namespace Go.Proofs.YtjhkecnnhddhbaaGreatDoor.Sr
open Go.RowKit Go.Maps Go.Proofs.YtjhkecnnhddhbaaGreatDoor.Pf
set_option maxRecDepth 100000
set_option autoImplicit false

/-- What causes leaves. -/
def CsOut (w : World) (s : Nat) (c : Int) (e : Ending) (w' : World) : Prop := ∃ g1 g2, e = .returned (.func (.func 243) #[] #[.pointer (some ⟨g1, 0, none⟩), .pointer (some ⟨g2, 0, none⟩)]) ∧ w'.cell? ⟨g1, 0, none⟩ = some (.pointer (some ⟨s, 0, none⟩)) ∧ w'.cell? ⟨g2, 0, none⟩ = some (.int .i64 c) ∧ Below w.heap.size w w'
set_option maxHeartbeats 1000000 in
theorem causes_any (s : Nat) (c : Int) (w : World) : Calls Tryz.prog 218 #[.pointer (some ⟨s, 0, none⟩), .int .i64 c] w (CsOut w s c) := by
  have hmf : ∀ (fn : Fn) (first cap : Array Value) (w : World), (Instr.makeFunc fn first cap).run Tryz.prog w = .ok (.func fn first cap) w := fun _ _ _ _ => rfl
  go_enter Tryz.func218, Tryz.ntmps218
  go_wp2
  go_ret
  refine ⟨_, _, rfl, ?_, ?_, bal (bal (Below.refl _ _) _) _⟩
  · simp [go_sem]
  · simp [go_sem]
end Go.Proofs.YtjhkecnnhddhbaaGreatDoor.Sr
