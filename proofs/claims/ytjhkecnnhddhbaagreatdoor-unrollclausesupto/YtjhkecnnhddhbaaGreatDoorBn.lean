/- The bits of some nodes of the toggle. -/
import Derived.Test.YtjhkecnnhddhbaaGreatDoorBm
namespace Go.Proofs.YtjhkecnnhddhbaaGreatDoor.Ev
open Go.RowKit Go.Maps
set_option maxRecDepth 100000
set_option maxRecDepth 100000

theorem all0_any (P : Nat) (p : Option Addr) (cap : Nat) (w : World) :
    Calls Tryz.prog 77 #[.pointer (some ⟨P, 0, none⟩), .slice p 0 cap] w fun e w' => e = .returned (.slice none 0 0) ∧ w' = w := by
  go_enter Tryz.func77, Tryz.ntmps77
  go_wp2
  go_loopw [5, 10] (fun v i wr => v = .slice none 0 0 ∧ i = .int .i64 0 ∧ wr = w) (fun _ _ _ => 0)
  case atStart => exact ⟨rfl, rfl, rfl⟩
  case round =>
    obtain ⟨rfl, rfl, rfl⟩ := hrel
    go_wp2
    go_ret
    exact ⟨rfl, rfl⟩

set_option maxHeartbeats 4000000 in
theorem all1_any (P : Nat) (p : Option Addr) (cap : Nat) (x y : Int) (Q : World → Prop) (w : World) (hI : IntsAt w p [x])
    (hW : Calls Tryz.prog 97 #[.pointer (some ⟨P, 0, none⟩), .int .i64 x] w fun e w' => ∃ G2, e = .returned (.slice (some ⟨G2, 0, none⟩) 1 1) ∧ Go.Proofs.YtjhkecnnhddhbaaGreatDoor.IRow w' G2 [y] ∧ Q w') :
    Calls Tryz.prog 77 #[.pointer (some ⟨P, 0, none⟩), .slice p 1 cap] w fun e w' => ∃ q k w1, e = .returned (.slice q 1 k) ∧ IntsAt w' q [y] ∧ Q w1 ∧ Below w1.heap.size w1 w' := by
  have HW := hide hW
  clear hW
  obtain ⟨b, off, rfl, hc⟩ := hI (by simp)
  have hc0 : w.cell? ⟨b, off, none⟩ = some (.int .i64 x) := by simpa using hc 0 (by simp)
  clear hc hI
  go_enter Tryz.func77, Tryz.ntmps77
  go_wp2
  go_loopw [5, 10] (fun v i wr => ∃ j : Nat, j ≤ 1 ∧ i = .int .i64 j ∧ ((j = 0 ∧ v = .slice none 0 0 ∧ wr = w) ∨ (j = 1 ∧ Hid (∃ q k w1, v = .slice q 1 k ∧ IntsAt wr q [y] ∧ Q w1 ∧ Below w1.heap.size w1 wr)))) (fun _ i _ => 1 - (intOf i).toNat)
  case atStart => exact ⟨0, by omega, rfl, Or.inl ⟨rfl, rfl, rfl⟩⟩
  case round =>
    obtain ⟨j, hj, rfl, ⟨rfl, rfl, hw1⟩ | ⟨rfl, HR⟩⟩ := hrel
    · subst hw1
      go_wp2_with fail
      refine HW.out.mono ?_
      rintro e w1 ⟨G2, rfl, hr, hq⟩
      have HRG := hide (Go.Proofs.YtjhkecnnhddhbaaGreatDoor.irow_ints hr)
      have HQ := hide hq
      have HO : Hid (w1.ownsRow w1.heap.size 3 1 (.slice none 0 0) ([] : List Int).length (([] : List Int).map (Value.int .i64))) := World.ownsRow_nil _ _ _ _
      clear hr hq
      go_wp2_with (at_builtin; refine Go.Proofs.YtjhkecnnhddhbaaGreatDoor.wpList_append_ints rfl _ _ rfl w1.heap.size _ [] [y] rfl HO.out _ _ rfl HRG.out (fun h => by cases h) (by simp) (by omega) ?_)
      intro v' w6 hown6 hg6
      obtain ⟨q, k, rfl, hiv, _⟩ := Go.Proofs.YtjhkecnnhddhbaaGreatDoor.owns_ints (l := [y]) hown6
      have HS : Hid (∃ q' k' w1, (Value.slice q 1 k) = .slice q' 1 k' ∧ IntsAt w6 q' [y] ∧ Q w1 ∧ Below w1.heap.size w1 w6) := ⟨q, k, w1, rfl, hiv, HQ.out, (Below.refl _ _).grown hg6 (Nat.le_refl _) (fun j hj => by cases hj)⟩
      clear hown6 hg6 hiv
      go_wp2
      go_roundw
      case rel => exact ⟨1, by omega, by go_num, Or.inr ⟨rfl, HS⟩⟩
      case measure => simp [intOf]
    · obtain ⟨q, k, w1, rfl, hi, hq, hb⟩ := HR.out
      have HX := hide (And.intro hi (And.intro hq hb))
      clear hi hq hb
      go_wp2
      go_ret
      exact ⟨q, k, w1, rfl, HX.out.1, HX.out.2.1, HX.out.2.2⟩
end Go.Proofs.YtjhkecnnhddhbaaGreatDoor.Ev
