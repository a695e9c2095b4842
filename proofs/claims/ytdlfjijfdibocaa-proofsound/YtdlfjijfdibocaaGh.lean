/- Gates: checked, and an And is added. -/
import Derived.Test.YtdlfjijfdibocaaGg
namespace Go.Proofs.Ytdlfjijfdibocaa
open Go.RowKit Go.Maps Go.WideMaps
set_option maxRecDepth 100000

/-- What checked leaves. -/
def Checked (w w' : World) (ins : Int) (ps : List (Int × Int)) (v : Value) : Prop :=
  if chkE ins ps = 0 then ∃ M B u D, v = .pointer (some ⟨M, 0, none⟩) ∧ Mk w' w.heap.size M B u ins ps ∧ w'.ownsMap Try.prog 36 (plainElem (H := Unit) Try.prog 3) B ps.length D ∧ MapIs ins ps ps.length D
  else v = .pointer none

set_option maxRecDepth 100000 in
set_option maxHeartbeats 4000000 in
theorem checked_any (ins : Int) (p : Option Addr) (cap : Nat) (ps : List (Int × Int)) (hwf : WfP ps) (hl : ps.length ≤ 8796093022208) (w : World) (hP : PairsAt w p ps) :
    Calls Try.prog 42 #[gval ins p ps.length cap] w fun e w' => ∃ v, e = .returned (.tuple #[v, .int .i64 (chkE ins ps)]) ∧ Checked w w' ins ps v ∧ Below w.heap.size w w' := by
  have HWF := hide hwf
  have hB0 : Below w.heap.size w (w.alloc (.cells #[.int .i64 ins, .slice p ps.length cap] 39)) := bal (Below.refl _ _) _
  clear hwf
  have HNO : Hid (∀ w', chkE ins ps ≠ 0 → Checked w w' ins ps (.pointer none)) := fun w' h => by unfold Checked; rw [if_neg h]
  have HYE : Hid (∀ w', chkE ins ps = 0 → ∀ M B u D, Mk w' w.heap.size M B u ins ps → w'.ownsMap Try.prog 36 (plainElem (H := Unit) Try.prog 3) B ps.length D → MapIs ins ps ps.length D → Checked w w' ins ps (.pointer (some ⟨M, 0, none⟩))) :=
    fun w' h M B u D h1 h2 h3 => by unfold Checked; rw [if_pos h]; exact ⟨M, B, u, D, rfl, h1, h2, h3⟩
  cases hr : btw ins 0 1000
  · have HE := hide (chk_range (ps := ps) hr)
    have hr2 := btw_false.1 hr
    clear HYE hr
    by_cases hn : ins < 0
    · go_enter Try.func42, Try.ntmps42
      go_wp2
      go_ret2
      exact ⟨_, by rw [HE.out]; rfl, HNO.out _ (by rw [HE.out]; decide), hB0⟩
    · have hn2 : 1000 < ins := by omega
      clear hr2
      go_enter Try.func42, Try.ntmps42
      go_wp2
      go_ret2
      exact ⟨_, by rw [HE.out]; rfl, HNO.out _ (by rw [HE.out]; decide), hB0⟩
  have hr2 := btw_true.1 hr
  obtain ⟨hr3, hr4⟩ := hr2
  by_cases hm : 1000000 < ps.length
  · have HE := hide (chk_many hr hm)
    have hm2 : (1000000 : Int) < (ps.length : Int) := by omega
    clear HYE hr
    go_enter Try.func42, Try.ntmps42
    go_wp2
    go_ret2
    exact ⟨_, by rw [HE.out]; rfl, HNO.out _ (by rw [HE.out]; decide), hB0⟩
  have hm1 : ps.length ≤ 1000000 := by omega
  have HCS := hide (chk_state hr hm1)
  have HCT := hide (chk_twice hr hm1)
  have HCO := hide (chk_ok hr hm1)
  clear hr
  go_enter Try.func42, Try.ntmps42
  go_wp2
  go_loopw [23] (fun i wr => ∃ k : Nat, k ≤ ps.length ∧ i = .int .i64 k ∧ Hid (stN ins ps k = true) ∧ Below w.heap.size w wr ∧ wr.cell? ⟨w.heap.size, 0, none⟩ = some (.int .i64 ins) ∧ wr.cell? ⟨w.heap.size, 1, none⟩ = some (.slice p ps.length cap)) (fun i _ => ps.length - (intOf i).toNat)
  case atStart => exact ⟨0, Nat.zero_le _, rfl, rfl, hB0, by simp [go_sem], by simp [go_sem]⟩
  case round =>
    obtain ⟨k, hk, rfl, hst, hbw, q0, q1⟩ := hrel
    by_cases hlt : k < ps.length
    · obtain ⟨b1, o1, rfl, hc1⟩ := (hP.later hbw) (by omega)
      obtain ⟨c0, c1⟩ := hc1 k hlt
      have hki : (k : Int) < (ps.length : Int) := by omega
      have HS := hide (stN_succ (ins := ins) hlt)
      have hwk := HWF.out k hlt
      unfold Wf at hwk
      clear hc1
      generalize ps[k] = pr at *
      obtain ⟨x, y⟩ := pr
      simp only at *
      have HBad : Hid (standB x y (1 + ins + k) = false → chkE ins ps = 4) := by
        intro hs
        refine HCS.out ?_
        rw [Bool.eq_false_iff]
        intro hh
        have := stN_down (k := k + 1) hh (by omega)
        rw [HS.out, hs] at this
        simp at this
      have hal : Below wr.heap.size wr (wr.alloc (.cells #[.int .i64 x, .int .i64 y] 36)) := bal (Below.refl _ _) _
      have q0a := fun o => past1 q0 o
      have HCL := hide (fun w1 => stands_any x y (1 + ins + k) hwk.2.2 w1)
      cases hs : standB x y (1 + ins + k)
      · have HE := hide (HBad.out hs)
        rw [hs] at HCL
        clear HBad HS HCS HCT HCO HYE hst hs
        go_wp2_with fail
        refine (HCL.out _).mono ?_
        rintro e w1 ⟨rfl, hb1⟩
        have HB1 := hide (bthen (bthen hbw hal) hb1)
        clear hb1 hal
        go_wp2
        go_ret2
        exact ⟨_, by rw [HE.out]; rfl, HNO.out _ (by rw [HE.out]; decide), HB1.out⟩
      · have HG : Hid (stN ins ps (k + 1) = true) := by rw [HS.out, hst.out, hs]; rfl
        rw [hs] at HCL
        clear HBad HS HCS HCT HCO HYE hst hs
        go_wp2_with fail
        refine (HCL.out _).mono ?_
        rintro e w1 ⟨rfl, hb1⟩
        have HB1 := hide (bthen (bthen hbw hal) hb1)
        have q0' := cell_later (bthen hal hb1) q0
        have q1' := cell_later (bthen hal hb1) q1
        clear hb1 hal
        go_wp2
        go_roundw
        case rel => exact ⟨k + 1, by omega, by go_num, HG, HB1.out, q0', q1'⟩
        case measure => simp [intOf]; omega
    · obtain rfl : k = ps.length := by omega
      have HCT2 := hide (HCT.out hst.out)
      have HCO2 := hide (HCO.out hst.out)
      have HFR := hide (from_any ins p cap ps HWF.out hm1 hr3 hr4 wr (hP.later hbw))
      clear HCS HCT HCO hst hlt
      cases hd : dupN ps ps.length
      · have HE := hide (HCO2.out hd)
        rw [hd] at HFR
        clear HCT2 HCO2 hd HNO
        go_wp2_with fail
        refine HFR.out.mono ?_
        rintro e w1 ⟨M, B, u, D, rfl, hmk, hown, hmap, hb1⟩
        have HB1 := hide (bthen hbw hb1)
        have HR := hide (HYE.out w1 HE.out M B u D ⟨hmk.c0, hmk.c1, hmk.c2, hmk.f1, hmk.row.mono hbw.size, Nat.le_trans hbw.size hmk.hM, Nat.le_trans hbw.size hmk.hB, hmk.ne, hmk.nv, hmk.nb⟩ hown hmap)
        clear hmk hown hmap hb1
        go_wp2
        go_ret2
        exact ⟨_, by rw [HE.out]; rfl, HR.out, HB1.out⟩
      · have HE := hide (HCT2.out hd)
        rw [hd] at HFR
        clear HCT2 HCO2 hd HYE
        go_wp2_with fail
        refine HFR.out.mono ?_
        rintro e w1 ⟨M, B, u, D, rfl, hmk, hown, hmap, hb1⟩
        have HB1 := hide (bthen hbw hb1)
        clear hmk hown hmap hb1
        go_wp2
        go_ret2
        exact ⟨_, by rw [HE.out]; rfl, HNO.out _ (by rw [HE.out]; decide), HB1.out⟩

theorem check_any (ins : Int) (p : Option Addr) (cap : Nat) (ps : List (Int × Int)) (hwf : WfP ps) (hl : ps.length ≤ 8796093022208) (w : World) (hP : PairsAt w p ps) :
    Calls Try.prog 21 #[gval ins p ps.length cap] w fun e w' => e = .returned (.int .i64 (chkE ins ps)) ∧ Below w.heap.size w w' := by
  have hB0 : Below w.heap.size w (w.alloc (.cells #[.int .i64 ins, .slice p ps.length cap] 39)) := bal (Below.refl _ _) _
  have HC := hide (checked_any ins p cap ps hwf hl _ (hP.later hB0))
  clear hP hwf
  generalize chkE ins ps = R at *
  go_enter Try.func21, Try.ntmps21
  go_wp2_with fail
  refine HC.out.mono ?_
  rintro e w1 ⟨v, rfl, _, hb1⟩
  have HB1 := hide (bthen hB0 hb1)
  clear hb1 hB0
  go_wp2
  go_ret
  exact ⟨rfl, HB1.out⟩

end Go.Proofs.Ytdlfjijfdibocaa
