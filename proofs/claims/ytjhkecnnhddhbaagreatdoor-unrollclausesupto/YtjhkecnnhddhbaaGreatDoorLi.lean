/- Nothing is deleted of an empty list. -/
import Derived.Test.YtjhkecnnhddhbaaGreatDoorLh
namespace Go.Proofs.YtjhkecnnhddhbaaGreatDoor.Sr
open Go.RowKit Go.Maps Go.Proofs.YtjhkecnnhddhbaaGreatDoor.Pf
set_option maxRecDepth 100000
set_option autoImplicit false

set_option maxHeartbeats 1000000 in
theorem indexFunc_none (p : Option Addr) (c : Nat) (f : Value) (w : World) : Calls Tryz.prog 50 #[.slice p 0 c, f] w fun e w' => e = .returned (.int .i64 (-1)) ∧ w' = w := by
  go_enter Tryz.func50, Tryz.ntmps50
  go_wp2_with fail
  go_loopw [8] (fun t wr => t = .int .i64 0 ∧ wr = w) (fun _ _ => 0)
  case atStart => exact ⟨rfl, rfl⟩
  case round =>
    obtain ⟨rfl, rfl⟩ := hrel
    go_wp2
    go_ret
    exact ⟨rfl, rfl⟩
set_option maxHeartbeats 1000000 in
theorem deleteFunc_none (p : Option Addr) (c : Nat) (f : Value) (w : World) : Calls Tryz.prog 222 #[.slice p 0 c, f] w fun e w' => e = .returned (.slice p 0 c) ∧ w' = w := by
  go_enter Tryz.func222, Tryz.ntmps222
  go_wp2_with fail
  refine (indexFunc_none p c f w).mono ?_
  rintro e w1 ⟨rfl, rfl⟩
  go_wp2
  go_ret
  exact ⟨rfl, rfl⟩
end Go.Proofs.YtjhkecnnhddhbaaGreatDoor.Sr
