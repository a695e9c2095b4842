/- The plain texts of steps: CheckSteps walked. -/
import Derived.Test.YtjhkecnnhddhbaaGreatDoorTg
import Derived.Test.YtjhkecnnhddhbaaGreatDoorBb
namespace Go.Proofs.YtjhkecnnhddhbaaGreatDoor
open Go.RowKit Go.Maps Go.WideMaps
set_option maxRecDepth 100000
set_option autoImplicit false

/-- What is said of a circuit and of steps. -/
def ckE (C : Ci) (steps : Int) (begun : Bool) : Int := stE (if C.e = 0 ∧ ¬ (0 ≤ steps ∧ steps ≤ 40) then 3 else C.e) begun C.i.ns

set_option maxHeartbeats 4000000 in
theorem checkSteps_any (C : Ci) (steps : Int) (begun : Bool) (w : World) (hC : CIn w C) :
    Calls Tryz.prog 5 #[C.v, .int .i64 steps, .bool begun] w fun e w' => e = .returned (.int .i64 (ckE C steps begun)) ∧ Below w.heap.size w w' := by
  have hb1 : Below w.heap.size w (w.alloc (.cells #[.int .i64 C.ins, .slice C.p C.ps.length C.cap, .int .i64 C.a, .int .i64 C.s, C.i.v, C.n.v, C.b.v, C.h.v] 27)) := bal (Below.refl _ _) _
  have x4 : (w.alloc (.cells #[.int .i64 C.ins, .slice C.p C.ps.length C.cap, .int .i64 C.a, .int .i64 C.s, C.i.v, C.n.v, C.b.v, C.h.v] 27)).cell? ⟨w.heap.size, 4, none⟩ = some C.i.v := by simp [go_sem]
  have HIN := hide (hC.later hb1)
  have HCK := hide (plainB_any C.ins C.p C.cap C.ps hC.wf hC.pl C.a C.s hC.wa hC.ws C.i C.n C.b C.h hC.il hC.nl (Nat.le_trans hC.bl (by decide)) (Nat.le_trans hC.hl (by decide)) _ HIN.out.at')
  have HB1 := hide hb1
  have hil := hC.il
  unfold maxLen at hil
  have HE : Hid (ckE C steps begun = stE (if C.e = 0 ∧ ¬ (0 ≤ steps ∧ steps ≤ 40) then 3 else C.e) begun C.i.ns) := rfl
  have HCE : Hid (cirE C.ins C.ps C.a C.s C.i.ns C.n.ns C.b.ns C.h.ns = C.e) := rfl
  rw [HCE.out] at HCK
  generalize ckE C steps begun = R at *
  generalize C.e = e0 at *
  clear hb1 hC HCE
  simp only [Sl.v, Ci.v, circ] at *
  go_enter Tryz.func5, Tryz.ntmps5
  go_wp2_with fail
  refine HCK.out.mono ?_
  rintro e w2 ⟨rfl, hb2⟩
  have y4 := cell_later hb2 x4
  have HII := hide (HIN.out.at'.i.later hb2)
  have HB2 := hide (bthen HB1.out hb2)
  clear HCK hb2 x4 HIN HB1
  have HBT := hide (between_any steps 0 40)
  have hkeep : ∃ e1 : Int, Hid (R = stE e1 begun C.i.ns) ∧ Hid (e1 = if e0 = 0 ∧ ¬ (0 ≤ steps ∧ steps ≤ 40) then 3 else e0) := ⟨_, HE, rfl⟩
  obtain ⟨e1, HR, HS⟩ := hkeep
  clear HE
  have hsplit : (e0 = 0 ∧ btw steps 0 40 = true) ∨ (e0 = 0 ∧ btw steps 0 40 = false) ∨ ¬ e0 = 0 := by
    by_cases h : e0 = 0
    · cases hb : btw steps 0 40
      · exact .inr (.inl ⟨h, rfl⟩)
      · exact .inl ⟨h, rfl⟩
    · exact .inr (.inr h)
  rcases hsplit with ⟨rfl, hb⟩ | ⟨rfl, hb⟩ | he
  · have HS1 : Hid (e1 = 0) := by unfold Hid; rw [HS.out, if_neg (fun h => h.2 (btw_true.1 hb))]
    rw [hb] at HBT
    clear HS hb
    go_wp2_with fail
    refine (HBT.out _).mono ?_
    rintro e w3 ⟨rfl, hw3⟩
    obtain rfl : w2 = w3 := hw3.symm
    clear hw3 HBT
    go_wp2
    go_loopw [7, 8] (fun e i wr => ∃ k : Nat, k ≤ C.i.ns.length ∧ i = .int .i64 k ∧ e = .int .i64 (stE e1 begun (C.i.ns.take k)) ∧ wr = w2) (fun _ i _ => C.i.ns.length - (intOf i).toNat)
    case atStart => exact ⟨0, Nat.zero_le _, rfl, by rw [List.take_zero, stE_nil, HS1.out], rfl⟩
    case round =>
      obtain ⟨k, hk, rfl, rfl, hwr⟩ := hrel
      obtain rfl : w2 = wr := hwr.symm
      by_cases hlt : k < C.i.ns.length
      · have hki : (k : Int) < (C.i.ns.length : Int) := by omega
        by_cases hek : stE e1 begun (C.i.ns.take k) = 0
        · have HST := hide (stE_step hlt hek)
          obtain ⟨ib, io, hie, hic⟩ := HII.out (by omega)
          have c0 := hic k hlt
          rw [hie] at y4
          rw [hek]
          clear hic hek
          generalize C.i.ns[k] = x at *
          cases begun with
          | false =>
            have HX : Hid (stE e1 false (C.i.ns.take (k + 1)) = 0) := HST.out
            clear HST
            go_wp2
            go_roundw
            case rel => exact ⟨k + 1, by omega, by go_num, by rw [HX.out], trivial⟩
            case measure => simp [intOf]; omega
          | true =>
            by_cases hx : 1 < x
            · have HX : Hid (stE e1 true (C.i.ns.take (k + 1)) = 7) := by unfold Hid; rw [HST.out, if_pos (by simpa using hx)]
              clear HST
              go_wp2
              go_roundw
              case rel => exact ⟨k + 1, by omega, by go_num, by rw [HX.out], trivial⟩
              case measure => simp [intOf]; omega
            · have HX : Hid (stE e1 true (C.i.ns.take (k + 1)) = 0) := by unfold Hid; rw [HST.out, if_neg (by simpa using hx)]
              clear HST
              go_wp2
              go_roundw
              case rel => exact ⟨k + 1, by omega, by go_num, by rw [HX.out], trivial⟩
              case measure => simp [intOf]; omega
        · have HX : Hid (stE e1 begun (C.i.ns.take k) = R) := by unfold Hid; rw [HR.out, stE_stay hek]
          have hekb : (stE e1 begun (C.i.ns.take k) == 0) = false := by simpa using hek
          clear hek
          generalize stE e1 begun (C.i.ns.take k) = ek at *
          go_wp2
          go_ret
          exact ⟨ret_int HX.out, HB2.out⟩
      · obtain rfl : k = C.i.ns.length := by omega
        have HX : Hid (stE e1 begun (C.i.ns.take C.i.ns.length) = R) := by unfold Hid; rw [HR.out, List.take_length]
        generalize stE e1 begun (C.i.ns.take C.i.ns.length) = ek at *
        go_wp2
        go_ret
        exact ⟨ret_int HX.out, HB2.out⟩
  · have HS1 : Hid (e1 = 3) := by unfold Hid; rw [HS.out, if_pos ⟨rfl, btw_false.1 hb⟩]
    rw [hb] at HBT
    clear HS hb
    go_wp2_with fail
    refine (HBT.out _).mono ?_
    rintro e w3 ⟨rfl, hw3⟩
    obtain rfl : w2 = w3 := hw3.symm
    clear hw3 HBT
    go_wp2
    go_loopw [7, 8] (fun e i wr => ∃ k : Nat, k ≤ C.i.ns.length ∧ i = .int .i64 k ∧ e = .int .i64 (stE e1 begun (C.i.ns.take k)) ∧ wr = w2) (fun _ i _ => C.i.ns.length - (intOf i).toNat)
    case atStart => exact ⟨0, Nat.zero_le _, rfl, by rw [List.take_zero, stE_nil, HS1.out], rfl⟩
    case round =>
      obtain ⟨k, hk, rfl, rfl, hwr⟩ := hrel
      obtain rfl : w2 = wr := hwr.symm
      by_cases hlt : k < C.i.ns.length
      · have hki : (k : Int) < (C.i.ns.length : Int) := by omega
        by_cases hek : stE e1 begun (C.i.ns.take k) = 0
        · have HST := hide (stE_step hlt hek)
          obtain ⟨ib, io, hie, hic⟩ := HII.out (by omega)
          have c0 := hic k hlt
          rw [hie] at y4
          rw [hek]
          clear hic hek
          generalize C.i.ns[k] = x at *
          cases begun with
          | false =>
            have HX : Hid (stE e1 false (C.i.ns.take (k + 1)) = 0) := HST.out
            clear HST
            go_wp2
            go_roundw
            case rel => exact ⟨k + 1, by omega, by go_num, by rw [HX.out], trivial⟩
            case measure => simp [intOf]; omega
          | true =>
            by_cases hx : 1 < x
            · have HX : Hid (stE e1 true (C.i.ns.take (k + 1)) = 7) := by unfold Hid; rw [HST.out, if_pos (by simpa using hx)]
              clear HST
              go_wp2
              go_roundw
              case rel => exact ⟨k + 1, by omega, by go_num, by rw [HX.out], trivial⟩
              case measure => simp [intOf]; omega
            · have HX : Hid (stE e1 true (C.i.ns.take (k + 1)) = 0) := by unfold Hid; rw [HST.out, if_neg (by simpa using hx)]
              clear HST
              go_wp2
              go_roundw
              case rel => exact ⟨k + 1, by omega, by go_num, by rw [HX.out], trivial⟩
              case measure => simp [intOf]; omega
        · have HX : Hid (stE e1 begun (C.i.ns.take k) = R) := by unfold Hid; rw [HR.out, stE_stay hek]
          have hekb : (stE e1 begun (C.i.ns.take k) == 0) = false := by simpa using hek
          clear hek
          generalize stE e1 begun (C.i.ns.take k) = ek at *
          go_wp2
          go_ret
          exact ⟨ret_int HX.out, HB2.out⟩
      · obtain rfl : k = C.i.ns.length := by omega
        have HX : Hid (stE e1 begun (C.i.ns.take C.i.ns.length) = R) := by unfold Hid; rw [HR.out, List.take_length]
        generalize stE e1 begun (C.i.ns.take C.i.ns.length) = ek at *
        go_wp2
        go_ret
        exact ⟨ret_int HX.out, HB2.out⟩
  · have heb : (e0 == 0) = false := by simpa using he
    have HS1 : Hid (e1 = e0) := by unfold Hid; rw [HS.out, if_neg (fun h => he h.1)]
    clear HS HBT
    go_wp2
    go_loopw [7, 8] (fun e i wr => ∃ k : Nat, k ≤ C.i.ns.length ∧ i = .int .i64 k ∧ e = .int .i64 (stE e1 begun (C.i.ns.take k)) ∧ wr = w2) (fun _ i _ => C.i.ns.length - (intOf i).toNat)
    case atStart => exact ⟨0, Nat.zero_le _, rfl, by rw [List.take_zero, stE_nil, HS1.out], rfl⟩
    case round =>
      obtain ⟨k, hk, rfl, rfl, hwr⟩ := hrel
      obtain rfl : w2 = wr := hwr.symm
      by_cases hlt : k < C.i.ns.length
      · have hki : (k : Int) < (C.i.ns.length : Int) := by omega
        by_cases hek : stE e1 begun (C.i.ns.take k) = 0
        · have HST := hide (stE_step hlt hek)
          obtain ⟨ib, io, hie, hic⟩ := HII.out (by omega)
          have c0 := hic k hlt
          rw [hie] at y4
          rw [hek]
          clear hic hek
          generalize C.i.ns[k] = x at *
          cases begun with
          | false =>
            have HX : Hid (stE e1 false (C.i.ns.take (k + 1)) = 0) := HST.out
            clear HST
            go_wp2
            go_roundw
            case rel => exact ⟨k + 1, by omega, by go_num, by rw [HX.out], trivial⟩
            case measure => simp [intOf]; omega
          | true =>
            by_cases hx : 1 < x
            · have HX : Hid (stE e1 true (C.i.ns.take (k + 1)) = 7) := by unfold Hid; rw [HST.out, if_pos (by simpa using hx)]
              clear HST
              go_wp2
              go_roundw
              case rel => exact ⟨k + 1, by omega, by go_num, by rw [HX.out], trivial⟩
              case measure => simp [intOf]; omega
            · have HX : Hid (stE e1 true (C.i.ns.take (k + 1)) = 0) := by unfold Hid; rw [HST.out, if_neg (by simpa using hx)]
              clear HST
              go_wp2
              go_roundw
              case rel => exact ⟨k + 1, by omega, by go_num, by rw [HX.out], trivial⟩
              case measure => simp [intOf]; omega
        · have HX : Hid (stE e1 begun (C.i.ns.take k) = R) := by unfold Hid; rw [HR.out, stE_stay hek]
          have hekb : (stE e1 begun (C.i.ns.take k) == 0) = false := by simpa using hek
          clear hek
          generalize stE e1 begun (C.i.ns.take k) = ek at *
          go_wp2
          go_ret
          exact ⟨ret_int HX.out, HB2.out⟩
      · obtain rfl : k = C.i.ns.length := by omega
        have HX : Hid (stE e1 begun (C.i.ns.take C.i.ns.length) = R) := by unfold Hid; rw [HR.out, List.take_length]
        generalize stE e1 begun (C.i.ns.take C.i.ns.length) = ek at *
        go_wp2
        go_ret
        exact ⟨ret_int HX.out, HB2.out⟩
end Go.Proofs.YtjhkecnnhddhbaaGreatDoor
