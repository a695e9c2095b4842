/- Steps that differ, of a circuit of one bit: the part. -/
import Derived.Test.YtjhkecnnhddhbaaGreatDoorKt
namespace Go.Proofs.YtjhkecnnhddhbaaGreatDoor
open Go.RowKit Go.Maps Go.WideMaps
set_option maxRecDepth 100000
set_option autoImplicit false

theorem enter156 (args : Array Value) (w : World) : (callFunc 156 args).run Tryz.prog w = .ok (.enter 156 args) w := by kernel_rfl
set_option maxHeartbeats 16000000 in
/-- One step, of one bit: the clauses that both states differ. -/
theorem different_makes (w0 : World) (M : Nat) (C : Ci) (hC : COk w0 C 1) (hs : C.s = 1) (U : Nat) (cs V0 : Int) :
    Makes w0 M C 1 ⟨1, cs, 156, #[.pointer (some ⟨U, 0, none⟩)], [(⟨U, 0, none⟩, .pointer (some ⟨M, 0, none⟩))], differT C 0 1 V0, some V0⟩ := by
  intro w v vars rs hU hB hl hv0 hv hnd
  simp only at hB hl hv ⊢
  obtain rfl : vars = V0 := hnd V0 rfl
  have hlen : (differT C 0 1 vars).length = 3 := by unfold differT; rw [List.length_append, differ_len, hs]; rfl
  rw [hlen] at hl
  have HB := hide hB
  have HU := hide hU
  have HDF := hide (differ_one w0 M C 1 hC hs 0 1 (by decide) (by decide) w v vars rs hU (by omega) hv0 (by omega))
  rw [show ((0 : Nat) : Int) = (0 : Int) from rfl, show ((1 : Nat) : Int) = (1 : Int) from rfl] at HDF
  generalize differT C 0 1 vars = Z at *
  have b0 := (hB _ _ (.head _)).1
  have u10 := hU.un.u10
  rw [show ((1 : Nat) : Int) = (1 : Int) from rfl] at u10
  clear hB hU hnd hlen
  go_enter Tryz.func156, Tryz.ntmps156
  go_wp2
  go_loopw [9] (fun i wr => ∃ k : Nat, i = .int .i64 k ∧ ((k = 0 ∧ wr = w) ∨ (1 ≤ k ∧ k ≤ 2 ∧ Hid (MkOut w0 w M v (vars + 1) rs Z C 1 (.returned (.tuple #[])) wr)))) (fun i _ => 2 - (intOf i).toNat)
  case atStart => exact ⟨0, rfl, Or.inl ⟨rfl, rfl⟩⟩
  case round =>
    obtain ⟨k, rfl, hcase⟩ := hrel
    rcases hcase with ⟨rfl, hwr⟩ | ⟨h1, h2, HD⟩
    · obtain rfl : w = wr := hwr.symm
      clear hwr
      go_wp2
      go_loopw [2] (fun i wr => ∃ k : Nat, i = .int .i64 k ∧ ((k = 1 ∧ wr = w) ∨ (k = 2 ∧ Hid (MkOut w0 w M v (vars + 1) rs Z C 1 (.returned (.tuple #[])) wr)))) (fun i _ => 2 - (intOf i).toNat)
      case atStart => exact ⟨1, rfl, Or.inl ⟨rfl, rfl⟩⟩
      case round =>
        obtain ⟨k, rfl, hcase⟩ := hrel
        rcases hcase with ⟨rfl, hwr⟩ | ⟨rfl, HD⟩
        · obtain rfl : w = wr := hwr.symm
          clear hwr
          go_wp2_with fail
          refine HDF.out.mono ?_
          rintro e w4 ⟨rfl, hrest⟩
          have HR4 : Hid (MkOut w0 w M v (vars + 1) rs Z C 1 (.returned (.tuple #[])) w4) := ⟨rfl, hrest⟩
          clear hrest HDF
          go_wp2
          go_roundw
          case rel => exact ⟨_, _, _, _, _, _, _, _, _, _, _, _, _, _, ⟨2, by go_num, Or.inr ⟨rfl, HR4⟩⟩, rfl⟩
          case measure => simp [intOf]
        · obtain ⟨_, v9, rs9, hn9, hU9, hk9⟩ := HD.out
          have y0 := ((HB.out.kp hk9) _ _ (.head _)).1
          have y10 := hU9.un.u10
          rw [show ((1 : Nat) : Int) = (1 : Int) from rfl] at y10
          clear hn9 hU9 hk9
          go_wp2
          go_roundw
          case rel => exact ⟨1, by go_num, Or.inr ⟨by decide, by decide, HD⟩⟩
          case measure => simp [intOf]
    · obtain ⟨_, v9, rs9, hn9, hU9, hk9⟩ := HD.out
      have y0 := ((HB.out.kp hk9) _ _ (.head _)).1
      have y10 := hU9.un.u10
      rw [show ((1 : Nat) : Int) = (1 : Int) from rfl] at y10
      clear hn9 hU9 hk9
      by_cases hk : k = 1
      · subst hk
        generalize wr = w5 at *
        go_wp2
        go_loopw [2] (fun i wr => i = .int .i64 2 ∧ wr = w5) (fun _ _ => 0)
        case atStart => exact ⟨rfl, rfl⟩
        case round =>
          obtain ⟨rfl, hw⟩ := hrel
          obtain rfl : w5 = wr := hw.symm
          clear hw
          go_wp2
          go_roundw
          case rel => exact ⟨2, by go_num, Or.inr ⟨by decide, by decide, HD⟩⟩
          case measure => simp [intOf]
      · obtain rfl : k = 2 := by omega
        go_wp2
        go_end0
        exact HD.out
end Go.Proofs.YtjhkecnnhddhbaaGreatDoor
