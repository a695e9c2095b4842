/- A queue's heap: Push, Pop, Fix. -/
import Derived.Test.YtkinmangilbeeaaGreatDoorJeM
namespace Go.Proofs.YtkinmangilbeeaaGreatDoor.Sr
open Go.RowKit Go.Maps Go.Proofs.YtkinmangilbeeaaGreatDoor.Pf
set_option maxRecDepth 100000

theorem swap_len (Q : Qu) (i j : Nat) : (Q.swap i j).hp.length = Q.hp.length := by simp [Qu.swap]
theorem upN_ok {n : Nat} : ∀ (f : Nat) (Q : Qu) (j : Nat), QOk n Q → j < Q.hp.length → QOk n (upN f Q j) ∧ (upN f Q j).hp.length = Q.hp.length := by
  intro f
  induction f with
  | zero => intro Q j h _; exact ⟨h, rfl⟩
  | succ f ih =>
    intro Q j h hj
    rw [upN_succ]
    split
    · exact ⟨h, rfl⟩
    · split
      · have h1 := ih (Q.swap ((j - 1) / 2) j) ((j - 1) / 2) (h.swap (by omega) hj) (by rw [swap_len]; omega)
        rw [swap_len] at h1
        exact h1
      · exact ⟨h, rfl⟩
theorem up_ok {n : Nat} {Q : Qu} (h : QOk n Q) {j : Nat} (hj : j < Q.hp.length) : QOk n (Q.up j) ∧ (Q.up j).hp.length = Q.hp.length := upN_ok _ Q j h hj
theorem dnN_ok {n m : Nat} : ∀ (f : Nat) (Q : Qu) (i : Nat), QOk n Q → m ≤ Q.hp.length → QOk n (dnN f Q i m).1 ∧ (dnN f Q i m).1.hp.length = Q.hp.length := by
  intro f
  induction f with
  | zero => intro Q i h _; exact ⟨h, rfl⟩
  | succ f ih =>
    intro Q i h hm
    rw [dnN_succ]
    split
    · exact ⟨h, rfl⟩
    · rename_i h0
      split
      · have hk := kid_lt (Q := Q) h0
        have h1 := ih (Q.swap i (Q.kid i m)) (Q.kid i m) (h.swap (by omega) (by omega)) (by rw [swap_len]; exact hm)
        rw [swap_len] at h1
        exact h1
      · exact ⟨h, rfl⟩
theorem dn_ok {n m : Nat} {Q : Qu} (h : QOk n Q) (i : Nat) (hm : m ≤ Q.hp.length) : QOk n (Q.dn i m).1 ∧ (Q.dn i m).1.hp.length = Q.hp.length := dnN_ok _ Q i h hm
/-- One more is put in. -/
def Qu.hpush (Q : Qu) (v : Int) : Qu := (Q.push v).up Q.hp.length
/-- The first one is taken out. -/
def Qu.hpop (Q : Qu) : Qu := ((Q.swap 0 (Q.hp.length - 1)).dn 0 (Q.hp.length - 1)).1.pop
/-- One whose weight has turned comes to its place. -/
def Qu.fix (Q : Qu) (i : Nat) : Qu := if i < (Q.dn i Q.hp.length).2 then (Q.dn i Q.hp.length).1 else (Q.dn i Q.hp.length).1.up i
theorem hpush_ok {n : Nat} {Q : Qu} (h : QOk n Q) {v : Int} (h0 : 0 ≤ v) (h1 : v < n) (hl : Q.hp.length < 1000000) : QOk n (Q.hpush v) ∧ (Q.hpush v).hp.length = Q.hp.length + 1 := by
  have := up_ok (h.push h0 h1 hl) (j := Q.hp.length) (by simp [Qu.push])
  simpa [Qu.push, Qu.hpush] using this
theorem hpop_ok {n : Nat} {Q : Qu} (h : QOk n Q) (hl : 0 < Q.hp.length) : QOk n Q.hpop ∧ Q.hpop.hp.length = Q.hp.length - 1 := by
  have h1 := dn_ok (h.swap (i := 0) (j := Q.hp.length - 1) hl (by omega)) 0 (m := Q.hp.length - 1) (by rw [swap_len]; omega)
  rw [swap_len] at h1
  refine ⟨h1.1.pop, ?_⟩
  unfold Qu.hpop Qu.pop
  simp [h1.2]
theorem fix_ok {n : Nat} {Q : Qu} (h : QOk n Q) {i : Nat} (hi : i < Q.hp.length) : QOk n (Q.fix i) ∧ (Q.fix i).hp.length = Q.hp.length := by
  have h1 := dn_ok h i (Nat.le_refl Q.hp.length)
  unfold Qu.fix
  split
  · exact h1
  · have h2 := up_ok h1.1 (j := i) (by rw [h1.2]; exact hi)
    exact ⟨h2.1, h2.2.trans h1.2⟩
set_option maxHeartbeats 4000000 in
theorem hpush_any (w : World) (X : Nat → Prop) (q gp gw : Nat) (vh : Value) (Q : Qu) (h : Qm w X q gp gw vh Q) (n : Nat) (ok : QOk n Q) (v : Nat) (hv : v < n) (hl : Q.hp.length < 1000000) :
    Calls Tryz.prog 107 #[.iface 79 (.pointer (some ⟨q, 0, none⟩)), .iface 3 (.int .i64 v)] w fun e w' => e = .returned (.tuple #[]) ∧ ∃ X', (∃ vh', Qm w' X' q gp gw vh' (Q.hpush v)) ∧ Fr X w w' X' := by
  have HP := hide (push_any w X q gp gw vh Q h n ok v hv hl)
  have HOK := hide (ok.push (v := v) (by omega) (by omega) hl)
  have hml := mLen q
  have hmp := mPush q
  have w1 := wrap_in ((Q.hp.length : Int) + 1 - 1) (by omega) (by omega)
  have e1 : ((Q.push v).hp.length : Int) = (Q.hp.length : Int) + 1 := by simp [Qu.push]
  have HLT : Hid (Q.hp.length < (Q.push v).hp.length) := by unfold Hid; simp [Qu.push]
  clear h ok
  go_enter Tryz.func107, Tryz.ntmps107
  go_wp2_with fail
  refine HP.out.mono ?_
  rintro e w1 ⟨rfl, X', vh', hq1, hf1⟩
  have HQ1 := hide hq1
  have HF1 := hide hf1
  clear hq1 hf1 HP
  have hL := len_any w1 X' q gp gw vh' (Q.push v) HQ1.out
  rw [e1] at hL
  have HL := hide hL
  clear hL
  go_wp2_with fail
  refine HL.out.mono ?_
  rintro e w2 ⟨rfl, hb2⟩
  have HQ2 := hide (HQ1.out.later hb2)
  have HF2 := hide (HF1.out.trans (Fr.quiet hb2))
  have HU := hide (up_any w2 X' q gp gw vh' (Q.push v) HQ2.out n HOK.out Q.hp.length HLT.out)
  clear hb2 HL HQ1 HF1
  go_wp2_with fail
  refine HU.out.mono ?_
  rintro e w3 ⟨rfl, hq3, hf3⟩
  have HQ3 := hide hq3
  have HF3 := hide (HF2.out.trans hf3)
  clear hq3 hf3 HU
  go_wp2
  go_end0
  exact ⟨rfl, X', ⟨vh', HQ3.out⟩, HF3.out⟩
set_option maxHeartbeats 4000000 in
theorem hpop_any (w : World) (X : Nat → Prop) (q gp gw : Nat) (vh : Value) (Q : Qu) (h : Qm w X q gp gw vh Q) (n : Nat) (ok : QOk n Q) (hl : 0 < Q.hp.length) :
    Calls Tryz.prog 87 #[.iface 79 (.pointer (some ⟨q, 0, none⟩))] w fun e w' => (∃ v, e = .returned (.iface 3 (.int .i64 v))) ∧ (∃ vh', Qm w' X q gp gw vh' Q.hpop) ∧ Fr X w w' X := by
  have HL := hide (len_any w X q gp gw vh Q h)
  have HQ := hide h
  have HOK := hide ok
  have hml := mLen q
  have hms := mSwap q
  have hmp := mPop q
  obtain ⟨k, hk⟩ : ∃ k : Nat, Q.hp.length = k + 1 := ⟨Q.hp.length - 1, by omega⟩
  have hkm : k ≤ 1000000 := by have := ok.len; omega
  have w1 := wrap_in ((k : Int) + 1 - 1) (by omega) (by omega)
  have HP : Hid (Q.hpop = ((Q.swap 0 k).dn 0 k).1.pop) := by unfold Hid Qu.hpop; rw [hk]; rfl
  have hk1 : ((k + 1 : Nat) : Int) = (k : Int) + 1 := by omega
  have HK := hide hk
  rw [hk, hk1] at HL
  clear h ok hl hk
  go_enter Tryz.func87, Tryz.ntmps87
  go_wp2_with fail
  refine HL.out.mono ?_
  rintro e wa ⟨rfl, hba⟩
  have HQA := hide (HQ.out.later hba)
  have HFA := hide (Fr.quiet (X := X) hba)
  have HSW := hide (swap_any wa X q gp gw vh Q HQA.out n HOK.out 0 k (by rw [HK.out]; omega) (by rw [HK.out]; omega))
  clear hba HL HQ
  go_wp2_with fail
  refine HSW.out.mono ?_
  rintro e wb ⟨rfl, hqb, hfb⟩
  have HQB := hide hqb
  have HFB := hide (HFA.out.trans hfb)
  have HOB := hide (HOK.out.swap (i := 0) (j := k) (by rw [HK.out]; omega) (by rw [HK.out]; omega))
  have HD := hide (down_any wb X q gp gw vh (Q.swap 0 k) hqb n HOB.out 0 k (by rw [swap_len, HK.out]; omega) (by omega))
  have HOD := hide (dn_ok HOB.out 0 (m := k) (by rw [swap_len, HK.out]; omega))
  clear hqb hfb HSW HQA HFA
  go_wp2_with fail
  refine HD.out.mono ?_
  rintro e wc ⟨rfl, hqc, hfc⟩
  have HFC := hide (HFB.out.trans hfc)
  have HPP := hide (pop_any wc X q gp gw vh ((Q.swap 0 k).dn 0 k).1 hqc n HOD.out.1 (by rw [HOD.out.2, swap_len, HK.out]; omega))
  clear hqc hfc HD HQB HFB
  go_wp2_with fail
  refine HPP.out.mono ?_
  rintro e wd ⟨rfl, hqd, hfd⟩
  have HQD := hide hqd
  have HFD := hide (HFC.out.trans hfd)
  clear hqd hfd HPP HFC
  go_wp2
  go_ret
  exact ⟨⟨_, rfl⟩, by rw [HP.out]; exact HQD.out, HFD.out⟩
set_option maxHeartbeats 4000000 in
theorem fix_any (w : World) (X : Nat → Prop) (q gp gw : Nat) (vh : Value) (Q : Qu) (h : Qm w X q gp gw vh Q) (n : Nat) (ok : QOk n Q) (i : Nat) (hi : i < Q.hp.length) :
    Calls Tryz.prog 85 #[.iface 79 (.pointer (some ⟨q, 0, none⟩)), .int .i64 i] w fun e w' => e = .returned (.tuple #[]) ∧ Qm w' X q gp gw vh (Q.fix i) ∧ Fr X w w' X := by
  have HL := hide (len_any w X q gp gw vh Q h)
  have HQ := hide h
  have HOK := hide ok
  have HI := hide hi
  have hml := mLen q
  have HI6 : Hid (i ≤ 1000000) := by have := ok.len; unfold Hid; omega
  have HD2 := hide (dn_ok ok i (Nat.le_refl Q.hp.length))
  have HFX : Hid (Q.fix i = if i < (Q.dn i Q.hp.length).2 then (Q.dn i Q.hp.length).1 else (Q.dn i Q.hp.length).1.up i) := rfl
  clear h ok hi
  go_enter Tryz.func85, Tryz.ntmps85
  go_wp2_with fail
  refine HL.out.mono ?_
  rintro e wa ⟨rfl, hba⟩
  have HFA := hide (Fr.quiet (X := X) hba)
  have HD := hide (down_any wa X q gp gw vh Q (HQ.out.later hba) n HOK.out i Q.hp.length (Nat.le_refl _) HI6.out)
  clear hba HL HQ
  go_wp2_with fail
  refine HD.out.mono ?_
  rintro e wb ⟨rfl, hqb, hfb⟩
  have HQB := hide hqb
  have HFB := hide (HFA.out.trans hfb)
  have hfx := HFX.out
  clear hqb hfb HD HFA HFX
  by_cases hlt : i < (Q.dn i Q.hp.length).2
  · rw [if_pos hlt] at hfx
    have HE := hide hfx
    rw [decide_eq_true hlt]
    clear hfx hlt
    go_wp2
    go_end0
    exact ⟨rfl, by rw [HE.out]; exact HQB.out, HFB.out⟩
  · rw [if_neg hlt] at hfx
    have HE := hide hfx
    have HU := hide (up_any wb X q gp gw vh (Q.dn i Q.hp.length).1 HQB.out n HD2.out.1 i (by rw [HD2.out.2]; exact HI.out))
    rw [decide_eq_false hlt]
    clear hfx hlt
    go_wp2_with fail
    refine HU.out.mono ?_
    rintro e wc ⟨rfl, hqc, hfc⟩
    have HQC := hide hqc
    have HFC := hide (HFB.out.trans hfc)
    clear hqc hfc HU
    go_wp2
    go_end0
    exact ⟨rfl, by rw [HE.out]; exact HQC.out, HFC.out⟩
end Go.Proofs.YtkinmangilbeeaaGreatDoor.Sr

namespace Go.Proofs.YtkinmangilbeeaaGreatDoor.Sr
open Go.RowKit Go.Maps Go.Proofs.YtkinmangilbeeaaGreatDoor.Pf
set_option maxRecDepth 100000

set_option maxHeartbeats 4000000 in
theorem first_any (w : World) (X : Nat → Prop) (q gp gw : Nat) (vh : Value) (Q : Qu) (h : Qm w X q gp gw vh Q) (n : Nat) (ok : QOk n Q) (hl : 0 < Q.hp.length) :
    Calls Tryz.prog 64 #[.pointer (some ⟨q, 0, none⟩)] w fun e w' => e = .returned (.int .i64 (Q.at 0)) ∧ (∃ vh', Qm w' X q gp gw vh' Q.hpop) ∧ Fr X w w' X := by
  have HP := hide (hpop_any w X q gp gw vh Q h n ok hl)
  have c0 := h.c0
  obtain ⟨g, cap, rfl, hr⟩ := h.row hl
  have r0 := (hr 0 hl).1
  have e1 : (0 : Int) < (Q.hp.length : Int) := by omega
  clear h ok hr
  go_enter Tryz.func64, Tryz.ntmps64
  go_wp2_with fail
  refine HP.out.mono ?_
  rintro e w1 ⟨⟨v, rfl⟩, hq1, hf1⟩
  have HQ1 := hide hq1
  have HF1 := hide hf1
  clear hq1 hf1 HP
  go_wp2
  go_ret
  exact ⟨rfl, HQ1.out, HF1.out⟩
/-- One is put in that is not there. -/
def Qu.add (Q : Qu) (v : Nat) : Qu := if Q.pl.getD v 0 = -1 then Q.hpush v else Q
set_option maxHeartbeats 4000000 in
theorem addQ_any (w : World) (X : Nat → Prop) (q gp gw : Nat) (vh : Value) (Q : Qu) (h : Qm w X q gp gw vh Q) (n : Nat) (ok : QOk n Q) (v : Nat) (hv : v < n) (hl : Q.hp.length < 1000000) :
    Calls Tryz.prog 86 #[.pointer (some ⟨q, 0, none⟩), .int .i64 v] w fun e w' => e = .returned (.tuple #[]) ∧ ∃ X', (∃ vh', Qm w' X' q gp gw vh' (Q.add v)) ∧ Fr X w w' X' := by
  have HP := hide (hpush_any w X q gp gw vh Q h n ok v hv hl)
  have HQ := hide h
  have c1 := h.c1
  obtain ⟨pa, -⟩ := map_cell h.pl (k := v) (by rw [ok.pl]; exact hv)
  have e5 : (v : Int) < (Q.pl.length : Int) := by rw [ok.pl]; omega
  have e7 : (0 : Int) ≤ (v : Int) := by omega
  have HA : Hid (Q.add v = if Q.pl.getD v 0 = -1 then Q.hpush v else Q) := rfl
  generalize Q.pl.getD v 0 = y at *
  clear h ok
  by_cases hy : y = -1
  · have ha := HA.out
    rw [if_pos hy] at ha
    have HE := hide ha
    subst hy
    clear ha HA
    go_enter Tryz.func86, Tryz.ntmps86
    go_wp2_with fail
    refine HP.out.mono ?_
    rintro e w1 ⟨rfl, X', hq1, hf1⟩
    have HQ1 := hide hq1
    have HF1 := hide hf1
    clear hq1 hf1 HP
    go_wp2
    go_end0
    exact ⟨rfl, X', by rw [HE.out]; exact HQ1.out, HF1.out⟩
  · have ha := HA.out
    rw [if_neg hy] at ha
    have HE := hide ha
    have hyb : (y == -1) = false := beq_eq_false_iff_ne.2 hy
    clear ha HA hy
    go_enter Tryz.func86, Tryz.ntmps86
    go_wp2
    go_end0
    exact ⟨rfl, X, ⟨vh, by rw [HE.out]; exact HQ.out⟩, Fr.refl _ _⟩
/-- One gains weight. -/
def Qu.heavier (Q : Qu) (v : Nat) : Qu := { Q with wt := Q.wt.set v (IntKind.i64.wrap (Q.wt.getD v 0 + Q.gain)) }
def Qu.meet (Q : Qu) (v : Nat) : Qu := if Q.pl.getD v 0 = -1 then Q.heavier v else (Q.heavier v).fix (Q.pl.getD v 0).toNat
theorem heavier_ok {n : Nat} {Q : Qu} (h : QOk n Q) (v : Nat) : QOk n (Q.heavier v) := ⟨h.pl, by simp [Qu.heavier, h.wt], h.hp, h.len, h.n⟩
/-- The load of a weight that is about to turn, under a name. -/
def loadM : Op := .load 3 (.tmp 10)
theorem loadM_fold : Op.load 3 (.tmp 10) = loadM := rfl
theorem loadM_is : loadM = Op.load 3 (.tmp 10) := rfl
attribute [local go_sem] loadM_is
set_option maxHeartbeats 4000000 in
theorem meet_any (w : World) (X : Nat → Prop) (q gp gw : Nat) (vh : Value) (Q : Qu) (h : Qm w X q gp gw vh Q) (n : Nat) (ok : QOk n Q) (v : Nat) (hv : v < n) (hp : Q.pl.getD v 0 = -1 ∨ (0 ≤ Q.pl.getD v 0 ∧ Q.pl.getD v 0 < Q.hp.length)) :
    Calls Tryz.prog 59 #[.pointer (some ⟨q, 0, none⟩), .int .i64 v] w fun e w' => e = .returned (.tuple #[]) ∧ Qm w' X q gp gw vh (Q.meet v) ∧ Fr X w w' X := by
  have HQ := hide h
  have HOK := hide ok
  have c1 := h.c1
  have c2 := h.c2
  have c3 := h.c3
  have hqw : q ≠ gw := h.qw
  have hpw : gp ≠ gw := h.ne
  obtain ⟨pa, -⟩ := map_cell h.pl (k := v) (by rw [ok.pl]; exact hv)
  obtain ⟨wa, fa⟩ := map_cell h.wt (k := v) (by rw [ok.wt]; exact hv)
  have e5 : (v : Int) < (Q.pl.length : Int) := by rw [ok.pl]; omega
  have e6 : (v : Int) < (Q.wt.length : Int) := by rw [ok.wt]; omega
  have e7 : (0 : Int) ≤ (v : Int) := by omega
  have HQ1 := hide (h.setW v (IntKind.i64.wrap (Q.wt.getD v 0 + Q.gain)))
  have HF1 : Hid (Fr X w (w.setCell ⟨gw, v, none⟩ (.int .i64 (IntKind.i64.wrap (Q.wt.getD v 0 + Q.gain)))) X) := Fr.set (q := ⟨gw, v, none⟩) h.xw _
  clear h ok
  have HME : Hid (Q.meet v = if Q.pl.getD v 0 = -1 then Q.heavier v else (Q.heavier v).fix (Q.pl.getD v 0).toNat) := rfl
  have HP := hide hp
  have HHV : Hid ({ Q with wt := Q.wt.set v (IntKind.i64.wrap (Q.wt.getD v 0 + Q.gain)) } = Q.heavier v) := rfl
  clear hp
  generalize Q.wt.getD v 0 = x at *
  generalize Q.pl.getD v 0 = y at *
  go_enter Tryz.func59, Tryz.ntmps59
  go_wp2_with fail
  simp only [loadM_fold]
  go_region_held3 (fun w' => w'.cell? ⟨q, 2, none⟩ = some (.slice (some ⟨gw, 0, none⟩) Q.wt.length Q.wt.length) ∧ w'.cell? ⟨q, 3, none⟩ = some (.int .i64 Q.gain)) (first | exact ⟨c2, c3⟩ | exact ⟨cell_set_far c2 hqw, cell_set_far c3 hqw⟩ | go_keep) (fail)
  have HQ2 := hide HQ1.out.drew
  have HF2 := hide (HF1.out.trans (Fr.quiet (Below.refl _ _).drew))
  have hheq : Hid ({ Q with wt := Q.wt.set v (IntKind.i64.wrap (x + Q.gain)) } = Q.heavier v) := HHV.out
  rw [hheq.out] at HQ2
  have c1' : ((w.setCell ⟨gw, v, none⟩ (.int .i64 (IntKind.i64.wrap (x + Q.gain)))).drew).cell? ⟨q, 1, none⟩ = some (.slice (some ⟨gp, 0, none⟩) Q.pl.length Q.pl.length) := cell_set_far c1 hqw
  have pa' : ((w.setCell ⟨gw, v, none⟩ (.int .i64 (IntKind.i64.wrap (x + Q.gain)))).drew).cell? ⟨gp, v, none⟩ = some (.int .i64 y) := cell_set_far pa hpw
  generalize (w.setCell ⟨gw, v, none⟩ (.int .i64 (IntKind.i64.wrap (x + Q.gain)))).drew = w2 at *
  clear c1 c2 c3 pa wa fa HQ1 HF1 hheq HHV
  have HO2 := hide (heavier_ok HOK.out v)
  by_cases hy : y = -1
  · have hm := HME.out
    rw [if_pos hy] at hm
    have HE := hide hm
    subst hy
    clear hm HME
    go_wp2
    go_end0
    exact ⟨rfl, by rw [HE.out]; exact HQ2.out, HF2.out⟩
  · have hm := HME.out
    rw [if_neg hy] at hm
    have HE := hide hm
    obtain ⟨k, hk⟩ : ∃ k : Nat, y = k := ⟨y.toNat, by have := HP.out; omega⟩
    have HK : Hid (k < (Q.heavier v).hp.length) := by
      have := HP.out
      have e : (Q.heavier v).hp.length = Q.hp.length := rfl
      unfold Hid
      omega
    subst hk
    have hyb : ((k : Int) != -1) = true := by simp
    have HX := hide (fix_any w2 X q gp gw vh (Q.heavier v) HQ2.out n HO2.out k HK.out)
    clear hm HME hy HP
    go_wp2_with fail
    refine HX.out.mono ?_
    rintro e w3 ⟨rfl, hq3, hf3⟩
    have HQ3 := hide hq3
    have HF3 := hide (HF2.out.trans hf3)
    clear hq3 hf3 HX
    go_wp2
    go_end0
    exact ⟨rfl, by rw [HE.out]; exact HQ3.out, HF3.out⟩
/-- What is gained from now on. -/
def Qu.fade (Q : Qu) : Qu := { Q with gain := Q.gain + Q.gain / 16 }
theorem fade_ok {n : Nat} {Q : Qu} (h : QOk n Q) : QOk n Q.fade := ⟨h.pl, h.wt, h.hp, h.len, h.n⟩
theorem Qm.setG {w : World} {X : Nat → Prop} {q gp gw : Nat} {vh : Value} {Q : Qu} (h : Qm w X q gp gw vh Q) (x : Int) : Qm (w.setCell ⟨q, 3, none⟩ (.int .i64 x)) X q gp gw vh { Q with gain := x } := by
  have hset : ∀ k, k ≠ q → (w.setCell ⟨q, 3, none⟩ (.int .i64 x)).heap[k]? = w.heap[k]? := fun k hk => heap_setCell_other _ _ _ _ (by simpa using hk)
  refine ⟨?_, row_same h.hp fun g hg => hset g (h.qh hg).symm, (hset gp h.qp.symm).trans h.pl, (hset gw h.qw.symm).trans h.wt, h.ne, h.np, h.nw, h.xq, h.xp, h.xw, h.xh, fun k hk => by simpa using h.xb k hk⟩
  rw [heap_setCell_same _ _ _ _ _ _ h.bk]
  rfl
def loadG : Op := .load 3 (.tmp 5)
theorem loadG_fold : Op.load 3 (.tmp 5) = loadG := rfl
theorem loadG_is : loadG = Op.load 3 (.tmp 5) := rfl
def loadH : Op := .load 3 (.tmp 9)
theorem loadH_fold : Op.load 3 (.tmp 9) = loadH := rfl
theorem loadH_is : loadH = Op.load 3 (.tmp 9) := rfl
attribute [local go_sem] loadG_is
attribute [local go_sem] loadH_is
set_option maxHeartbeats 4000000 in
/-- As long as it has not grown too great. -/
theorem fade_any (w : World) (X : Nat → Prop) (q gp gw : Nat) (vh : Value) (Q : Qu) (h : Qm w X q gp gw vh Q) (h0 : 0 ≤ Q.gain) (h1 : Q.gain + Q.gain / 16 < 1099511627776) :
    Calls Tryz.prog 58 #[.pointer (some ⟨q, 0, none⟩)] w fun e w' => e = .returned (.tuple #[]) ∧ Qm w' X q gp gw vh Q.fade ∧ Fr X w w' X := by
  have c3 := h.c3
  have fz := h.fz 3
  have HTD : Hid (Int.tdiv Q.gain 16 = Q.gain / 16) := Int.tdiv_eq_ediv_of_nonneg h0
  have wa : IntKind.i64.wrap (Q.gain / 16) = Q.gain / 16 := by rw [IntKind.wrap_i64]; omega
  have wb : IntKind.i64.wrap (Q.gain + Q.gain / 16) = Q.gain + Q.gain / 16 := by rw [IntKind.wrap_i64]; omega
  have HQ1 := hide (h.setG (Q.gain + Q.gain / 16))
  have HF1 : Hid (Fr X w (w.setCell ⟨q, 3, none⟩ (.int .i64 (Q.gain + Q.gain / 16))) X) := Fr.set (q := ⟨q, 3, none⟩) h.xq _
  clear h
  go_enter Tryz.func58, Tryz.ntmps58
  go_wp2_with fail
  simp only [loadG_fold, loadH_fold]
  go_region_held3 (fun _ => True) (trivial) (fail)
  all_goals
    rw [HTD.out, wa, wb]
    have c3' := HQ1.out.drew.c3
    have HQ2 := hide HQ1.out.drew
    have HF2 := hide (HF1.out.trans (Fr.quiet (Below.refl _ _).drew))
    generalize (w.setCell ⟨q, 3, none⟩ (.int .i64 (Q.gain + Q.gain / 16))).drew = w2 at *
    clear c3 fz HQ1 HF1
    simp only at c3'
    go_wp2
    refine bodyPost_ret (results_none rfl _ _ _) rfl ?_
    exact ⟨rfl, HQ2.out, HF2.out⟩
end Go.Proofs.YtkinmangilbeeaaGreatDoor.Sr
