/- Is a clause empty? -/
import Derived.Test.YtdlfjijfdibocaaCg
namespace Go.Proofs.Ytdlfjijfdibocaa.Pf
open Go.RowKit Go.Maps Go.WideMaps
set_option maxRecDepth 100000
theorem isEmpty_any (p : Option Addr) (n c : Nat) (w : World) : Calls Try.prog 12 #[.slice p n c] w fun e w' => e = .returned (.bool (decide (n = 0))) ∧ w' = w := by
  by_cases h : n = 0
  · subst h
    go_enter Try.func12, Try.ntmps12
    go_wp2_with fail
    go_ret
    exact ⟨rfl, rfl⟩
  · have hd : decide (n = 0) = false := by simpa using h
    have hi : ((n : Int) == 0) = false := by simp only [beq_eq_false_iff_ne, ne_eq]; omega
    rw [hd]
    clear hd
    go_enter Try.func12, Try.ntmps12
    go_wp2_with fail
    go_ret
    exact ⟨rfl, rfl⟩
end Go.Proofs.Ytdlfjijfdibocaa.Pf
