/- Is a list what it should be, and the error with it? -/
import Derived.Test.YtabnimgpednhjaaNd
namespace Go.Proofs.Ytabnimgpednhjaa
open Go.RowKit

/-- What a list with its error should be. -/
def listB (l : List Int) (e c : Int) (r : List Int) : Bool := (e == c) && decide (l = if c = 0 then r else [])

set_option maxRecDepth 100000 in
set_option maxHeartbeats 1000000 in
theorem listIs_any (p q : Option Addr) (cp cq : Nat) (l r : List Int) (e c : Int) (hl : l.length ≤ maxLen) (hr : r.length ≤ maxLen) (w : World) (hP : IntsAt w p l) (hQ : IntsAt w q r) :
    Calls Try.prog 24 #[.slice p l.length cp, .int .i64 e, .int .i64 c, .slice q r.length cq] w fun en w' => en = .returned (.bool (listB l e c r)) ∧ Below w.heap.size w w' := by
  by_cases hc : c = 0
  · have HE : Hid (listB l e c r = ((e == c) && decide (l = r))) := by unfold listB; rw [if_pos hc]; rfl
    have hcn : (c != 0) = false := by simp [hc]
    have HS := hide (fun _ : Unit => sameInts_any p q cp cq l r hl hr w hP hQ)
    rw [HE.out]
    clear hc HE hP hQ
    generalize decide (l = r) = d at *
    cases hec : (e == c)
    · go_enter Try.func24, Try.ntmps24
      go_wp2_with fail
      go_ret
      exact ⟨by simp, Below.refl _ _⟩
    · go_enter Try.func24, Try.ntmps24
      go_wp2_with fail
      refine (HS.out ()).mono ?_
      rintro en w' ⟨rfl, hb⟩
      go_wp2
      go_ret
      exact ⟨by simp, hb⟩
  · have HE : Hid (listB l e c r = ((e == c) && decide (l = []))) := by unfold listB; rw [if_neg hc]; rfl
    have hcn : (c != 0) = true := by simp [hc]
    have HS := hide (fun _ : Unit => sameInts_any p none cp 0 l [] hl (by simp) w hP (fun h => by simp at h))
    rw [HE.out]
    clear hc HE hP hQ
    generalize decide (l = []) = d at *
    cases hec : (e == c)
    · go_enter Try.func24, Try.ntmps24
      go_wp2_with fail
      go_ret
      exact ⟨by simp, Below.refl _ _⟩
    · go_enter Try.func24, Try.ntmps24
      go_wp2_with fail
      refine (HS.out ()).mono ?_
      rintro en w' ⟨rfl, hb⟩
      go_wp2
      go_ret
      exact ⟨by simp, hb⟩

end Go.Proofs.Ytabnimgpednhjaa
