/- Gates: the plain text: a graph is checked. -/
import Derived.Test.YtjhkecnnhddhbaaGreatDoorGd
namespace Go.Proofs.YtjhkecnnhddhbaaGreatDoor
open Go.RowKit Go.Maps Go.WideMaps
set_option maxRecDepth 100000
set_option maxRecDepth 100000

theorem andAt_ge (ps : List (Int × Int)) (k : Nat) (x : Int × Int) : -1 ≤ andAt ps k x ∧ andAt ps k x ≤ k := by
  unfold andAt
  cases h : (ps.take k).findIdx? (· == x) with
  | none => simp
  | some i =>
    rw [List.findIdx?_eq_some_iff_getElem] at h
    obtain ⟨h1, _⟩ := h
    rw [List.length_take] at h1
    simp
    omega

set_option maxRecDepth 100000 in
set_option maxHeartbeats 4000000 in
theorem checkGraph_any (ins : Int) (p : Option Addr) (cap : Nat) (ps : List (Int × Int)) (hwf : WfP ps) (hl : ps.length ≤ 8796093022208) (w : World) (hP : PairsAt w p ps) :
    Calls Tryz.prog 52 #[gval ins p ps.length cap] w fun e w' => e = .returned (.int .i64 (chkE ins ps)) ∧ Below w.heap.size w w' := by
  have HWF := hide hwf
  have hB0 : Below w.heap.size w (w.alloc (.cells #[.int .i64 ins, .slice p ps.length cap] 24)) := bal (Below.refl _ _) _
  clear hwf
  cases hr : btw ins 0 1000
  · have HE := hide (chk_range (ps := ps) hr)
    generalize chkE ins ps = R at *
    go_enter Tryz.func52, Tryz.ntmps52
    go_wp2_with (go_at_call 21; refine (between_any _ _ _ _).mono ?_; rintro e w' ⟨rfl, rfl⟩)
    go_ret
    exact ⟨ret_int HE.out.symm, hB0⟩
  by_cases hm : 1000000 < ps.length
  · have HE := hide (chk_many hr hm)
    have hm2 : (1000000 : Int) < (ps.length : Int) := by omega
    generalize chkE ins ps = R at *
    go_enter Tryz.func52, Tryz.ntmps52
    go_wp2_with (go_at_call 21; refine (between_any _ _ _ _).mono ?_; rintro e w' ⟨rfl, rfl⟩)
    go_ret
    exact ⟨ret_int HE.out.symm, hB0⟩
  have hm1 : ps.length ≤ 1000000 := by omega
  have hr2 := btw_true.1 hr
  have HCS := hide (chk_state hr hm1)
  have HCT := hide (chk_twice hr hm1)
  have HCO := hide (chk_ok hr hm1)
  have HRR := hide hr
  go_enter Tryz.func52, Tryz.ntmps52
  go_wp2_with (go_at_call 21; refine (between_any _ _ _ _).mono ?_; rintro e w' ⟨rfl, rfl⟩; rw [HRR.out])
  go_loopw [3] (fun i wr => ∃ k : Nat, k ≤ ps.length ∧ i = .int .i64 k ∧ Hid (stN ins ps k = true) ∧ Below w.heap.size w wr ∧ wr.cell? ⟨w.heap.size, 0, none⟩ = some (.int .i64 ins) ∧ wr.cell? ⟨w.heap.size, 1, none⟩ = some (.slice p ps.length cap)) (fun i _ => ps.length - (intOf i).toNat)
  case atStart => exact ⟨0, Nat.zero_le _, rfl, rfl, hB0, by simp [go_sem], by simp [go_sem]⟩
  case round =>
    obtain ⟨k, hk, rfl, hst, hbw, q0, q1⟩ := hrel
    by_cases hlt : k < ps.length
    · obtain ⟨b1, o1, rfl, hc1⟩ := (hP.later hbw) (by omega)
      obtain ⟨c0, c1⟩ := hc1 k hlt
      have hki : (k : Int) < (ps.length : Int) := by omega
      have HS := hide (stN_succ (ins := ins) hlt)
      have hwk := HWF.out k hlt
      unfold Wf at hwk
      clear hc1
      generalize ps[k] = pr at *
      obtain ⟨x, y⟩ := pr
      simp only at *
      have HBad : Hid (standB x y (1 + ins + k) = false → chkE ins ps = 4) := by
        intro hs
        refine HCS.out ?_
        rw [Bool.eq_false_iff]
        intro hh
        have := stN_down (k := k + 1) hh (by omega)
        rw [HS.out, hs] at this
        simp at this
      by_cases h1 : y ≤ x
      · have HE := hide (HBad.out (by simp [standB]; omega))
        clear HBad HS HCS HCT HCO
        go_wp2
        go_quiet (fail)
        go_wp2
        go_ret
        exact ⟨ret_int HE.out.symm, bdn hbw _⟩
      by_cases h2 : x < 2
      · have HE := hide (HBad.out (by simp [standB]; omega))
        clear HBad HS HCS HCT HCO
        go_wp2
        go_quiet (fail)
        go_wp2
        go_ret
        exact ⟨ret_int HE.out.symm, bdn hbw _⟩
      by_cases h3 : 2 * (1 + ins + k) ≤ y
      · have HE := hide (HBad.out (by simp [standB]; omega))
        clear HBad HS HCS HCT HCO
        go_wp2
        go_quiet (fail)
        go_wp2
        go_ret
        exact ⟨ret_int HE.out.symm, bdn hbw _⟩
      by_cases h4 : x / 2 = y / 2
      · have HE := hide (HBad.out (by simp [standB]; omega))
        clear HBad HS HCS HCT HCO
        go_wp2
        go_quiet (fail)
        go_wp2
        go_ret
        exact ⟨ret_int HE.out.symm, bdn hbw _⟩
      have HG : Hid (stN ins ps (k + 1) = true) := by
        rw [HS.out, hst.out]
        simp [standB, Hid]
        omega
      have h4' : (x / 2 == y / 2) = false := by simpa using h4
      clear HBad HS HCS HCT HCO
      go_wp2
      go_quiet (fail)
      go_wp2
      go_roundw
      case rel => exact ⟨k + 1, by omega, by go_num, HG, bdn hbw _, q0, q1⟩
      case measure => simp [intOf]; omega
    · obtain rfl : k = ps.length := by omega
      have HCT2 := hide (HCT.out hst.out)
      have HCO2 := hide (HCO.out hst.out)
      have HB1 := hide hbw
      clear HCS HCT HCO hst
      go_wp2
      go_loopw [6] (fun i wr => ∃ k : Nat, k ≤ ps.length ∧ i = .int .i64 k ∧ Hid (dupN ps k = false) ∧ Below w.heap.size w wr ∧ wr.cell? ⟨w.heap.size, 0, none⟩ = some (.int .i64 ins) ∧ wr.cell? ⟨w.heap.size, 1, none⟩ = some (.slice p ps.length cap)) (fun i _ => ps.length - (intOf i).toNat)
      case atStart => exact ⟨0, Nat.zero_le _, rfl, rfl, hbw, q0, q1⟩
      case round =>
        clear hbw q0 q1
        obtain ⟨k, hk, rfl, hst, hbw, q0, q1⟩ := hrel
        by_cases hlt : k < ps.length
        · have hcall := fun (w1 : World) (hb : Below w.heap.size w w1) => andAt_any ins p cap ps (by omega) HWF.out k (by omega) ps[k].1 ps[k].2 (HWF.out k hlt).1 (HWF.out k hlt).2 w1 (hP.later hb)
          obtain ⟨b1, o1, rfl, hc1⟩ := (hP.later hbw) (by omega)
          obtain ⟨c0, c1⟩ := hc1 k hlt
          have hki : (k : Int) < (ps.length : Int) := by omega
          have HS := hide (dupN_succ hlt)
          have hge := andAt_ge ps k (ps[k].1, ps[k].2)
          have HCL := hide hcall
          have HB2 := hide hbw
          clear hc1 hcall
          generalize ps[k] = pr at *
          obtain ⟨x, y⟩ := pr
          simp only at *
          generalize andAt ps k (x, y) = at1 at *
          by_cases h0 : 0 ≤ at1
          · have HE : Hid (chkE ins ps = 6) := by
              refine HCT2.out (dupN_up (k := k + 1) ?_ (by omega))
              rw [HS.out]; simp [h0]
            clear HCT2 HCO2 HS hst
            go_wp2
            go_region_held3 (fun w' => w'.cell? ⟨w.heap.size, 0, none⟩ = some (.int .i64 ins) ∧ w'.cell? ⟨w.heap.size, 1, none⟩ = some (.slice (some ⟨b1, o1, none⟩) ps.length cap) ∧ w'.cell? ⟨b1, o1 + k * 2, none⟩ = some (.int .i64 x) ∧ w'.cell? ⟨b1, o1 + k * 2 + 1, none⟩ = some (.int .i64 y))
              (first | exact ⟨q0, q1, c0, c1⟩ | exact ⟨cell_later hb1 q0, cell_later hb1 q1, cell_later hb1 c0, cell_later hb1 c1⟩ | go_keep)
              ((go_at_call 72; refine (HCL.out _ HB2.out.drew).mono ?_; rintro e w1 ⟨rfl, hb1⟩))
            have HB3 := hide (bthen HB2.out.drew hb1)
            clear hb1
            go_wp2
            go_ret
            exact ⟨ret_int HE.out.symm, HB3.out⟩
          · have HE : Hid (dupN ps (k + 1) = false) := by
              rw [HS.out, hst.out]; simp [h0, Hid]
            clear HCT2 HCO2 HS hst
            go_wp2
            go_region_held3 (fun w' => w'.cell? ⟨w.heap.size, 0, none⟩ = some (.int .i64 ins) ∧ w'.cell? ⟨w.heap.size, 1, none⟩ = some (.slice (some ⟨b1, o1, none⟩) ps.length cap) ∧ w'.cell? ⟨b1, o1 + k * 2, none⟩ = some (.int .i64 x) ∧ w'.cell? ⟨b1, o1 + k * 2 + 1, none⟩ = some (.int .i64 y))
              (first | exact ⟨q0, q1, c0, c1⟩ | exact ⟨cell_later hb1 q0, cell_later hb1 q1, cell_later hb1 c0, cell_later hb1 c1⟩ | go_keep)
              ((go_at_call 72; refine (HCL.out _ HB2.out.drew).mono ?_; rintro e w1 ⟨rfl, hb1⟩))
            have HB3 := hide (bthen HB2.out.drew hb1)
            have q0' := cell_later hb1 (show wr.drew.cell? _ = _ from q0)
            have q1' := cell_later hb1 (show wr.drew.cell? _ = _ from q1)
            clear hb1
            go_wp2
            go_roundw
            case rel => exact ⟨k + 1, by omega, by go_num, HE, HB3.out, q0', q1'⟩
            case measure => simp [intOf]; omega
        · obtain rfl : k = ps.length := by omega
          have HE := hide (HCO2.out hst.out)
          go_wp2
          go_ret
          exact ⟨ret_int HE.out.symm, hbw⟩

end Go.Proofs.YtjhkecnnhddhbaaGreatDoor
