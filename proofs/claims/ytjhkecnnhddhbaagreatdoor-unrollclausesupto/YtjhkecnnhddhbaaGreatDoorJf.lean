/- A queue's heap: Push, Pop, Fix. -/
import Derived.Test.YtjhkecnnhddhbaaGreatDoorJe
namespace Go.Proofs.YtjhkecnnhddhbaaGreatDoor.Sr
open Go.RowKit Go.Maps Go.Proofs.YtjhkecnnhddhbaaGreatDoor.Pf
set_option maxRecDepth 100000
set_option autoImplicit false

theorem swap_len (Q : Qu) (i j : Nat) : (Q.swap i j).hp.length = Q.hp.length := by simp [Qu.swap]
theorem upN_ok {n : Nat} : ∀ (f : Nat) (Q : Qu) (j : Nat), QOk n Q → j < Q.hp.length → QOk n (upN f Q j) ∧ (upN f Q j).hp.length = Q.hp.length := by
  intro f
  induction f with
  | zero => intro Q j h _; exact ⟨h, rfl⟩
  | succ f ih =>
    intro Q j h hj
    rw [upN_succ]
    split
    · exact ⟨h, rfl⟩
    · split
      · have h1 := ih (Q.swap ((j - 1) / 2) j) ((j - 1) / 2) (h.swap (by omega) hj) (by rw [swap_len]; omega)
        rw [swap_len] at h1
        exact h1
      · exact ⟨h, rfl⟩
theorem up_ok {n : Nat} {Q : Qu} (h : QOk n Q) {j : Nat} (hj : j < Q.hp.length) : QOk n (Q.up j) ∧ (Q.up j).hp.length = Q.hp.length := upN_ok _ Q j h hj
theorem dnN_ok {n m : Nat} : ∀ (f : Nat) (Q : Qu) (i : Nat), QOk n Q → m ≤ Q.hp.length → QOk n (dnN f Q i m).1 ∧ (dnN f Q i m).1.hp.length = Q.hp.length := by
  intro f
  induction f with
  | zero => intro Q i h _; exact ⟨h, rfl⟩
  | succ f ih =>
    intro Q i h hm
    rw [dnN_succ]
    split
    · exact ⟨h, rfl⟩
    · rename_i h0
      split
      · have hk := kid_lt (Q := Q) h0
        have h1 := ih (Q.swap i (Q.kid i m)) (Q.kid i m) (h.swap (by omega) (by omega)) (by rw [swap_len]; exact hm)
        rw [swap_len] at h1
        exact h1
      · exact ⟨h, rfl⟩
theorem dn_ok {n m : Nat} {Q : Qu} (h : QOk n Q) (i : Nat) (hm : m ≤ Q.hp.length) : QOk n (Q.dn i m).1 ∧ (Q.dn i m).1.hp.length = Q.hp.length := dnN_ok _ Q i h hm
/-- One more is put in. -/
def Qu.hpush (Q : Qu) (v : Int) : Qu := (Q.push v).up Q.hp.length
/-- The first one is taken out. -/
def Qu.hpop (Q : Qu) : Qu := ((Q.swap 0 (Q.hp.length - 1)).dn 0 (Q.hp.length - 1)).1.pop
/-- One whose weight has turned comes to its place. -/
def Qu.fix (Q : Qu) (i : Nat) : Qu := if i < (Q.dn i Q.hp.length).2 then (Q.dn i Q.hp.length).1 else (Q.dn i Q.hp.length).1.up i
theorem hpush_ok {n : Nat} {Q : Qu} (h : QOk n Q) {v : Int} (h0 : 0 ≤ v) (h1 : v < n) (hl : Q.hp.length < 1000000) : QOk n (Q.hpush v) ∧ (Q.hpush v).hp.length = Q.hp.length + 1 := by
  have := up_ok (h.push h0 h1 hl) (j := Q.hp.length) (by simp [Qu.push])
  simpa [Qu.push, Qu.hpush] using this
theorem hpop_ok {n : Nat} {Q : Qu} (h : QOk n Q) (hl : 0 < Q.hp.length) : QOk n Q.hpop ∧ Q.hpop.hp.length = Q.hp.length - 1 := by
  have h1 := dn_ok (h.swap (i := 0) (j := Q.hp.length - 1) hl (by omega)) 0 (m := Q.hp.length - 1) (by rw [swap_len]; omega)
  rw [swap_len] at h1
  refine ⟨h1.1.pop, ?_⟩
  unfold Qu.hpop Qu.pop
  simp [h1.2]
theorem fix_ok {n : Nat} {Q : Qu} (h : QOk n Q) {i : Nat} (hi : i < Q.hp.length) : QOk n (Q.fix i) ∧ (Q.fix i).hp.length = Q.hp.length := by
  have h1 := dn_ok h i (Nat.le_refl Q.hp.length)
  unfold Qu.fix
  split
  · exact h1
  · have h2 := up_ok h1.1 (j := i) (by rw [h1.2]; exact hi)
    exact ⟨h2.1, h2.2.trans h1.2⟩
set_option maxHeartbeats 4000000 in
theorem hpush_any (w : World) (X : Nat → Prop) (q gp gw : Nat) (vh : Value) (Q : Qu) (h : Qm w X q gp gw vh Q) (n : Nat) (ok : QOk n Q) (v : Nat) (hv : v < n) (hl : Q.hp.length < 1000000) :
    Calls Tryz.prog 246 #[.iface 201 (.pointer (some ⟨q, 0, none⟩)), .iface 3 (.int .i64 v)] w fun e w' => e = .returned (.tuple #[]) ∧ ∃ X', (∃ vh', Qm w' X' q gp gw vh' (Q.hpush v)) ∧ Fr X w w' X' := by
  have HP := hide (push_any w X q gp gw vh Q h n ok v hv hl)
  have HOK := hide (ok.push (v := v) (by omega) (by omega) hl)
  have hml := mLen q
  have hmp := mPush q
  have w1 := wrap_in ((Q.hp.length : Int) + 1 - 1) (by omega) (by omega)
  have e1 : ((Q.push v).hp.length : Int) = (Q.hp.length : Int) + 1 := by simp [Qu.push]
  have HLT : Hid (Q.hp.length < (Q.push v).hp.length) := by unfold Hid; simp [Qu.push]
  clear h ok
  go_enter Tryz.func246, Tryz.ntmps246
  go_wp2_with fail
  refine HP.out.mono ?_
  rintro e w1 ⟨rfl, X', vh', hq1, hf1⟩
  have HQ1 := hide hq1
  have HF1 := hide hf1
  clear hq1 hf1 HP
  have hL := len_any w1 X' q gp gw vh' (Q.push v) HQ1.out
  rw [e1] at hL
  have HL := hide hL
  clear hL
  go_wp2_with fail
  refine HL.out.mono ?_
  rintro e w2 ⟨rfl, hb2⟩
  have HQ2 := hide (HQ1.out.later hb2)
  have HF2 := hide (HF1.out.trans (Fr.quiet hb2))
  have HU := hide (up_any w2 X' q gp gw vh' (Q.push v) HQ2.out n HOK.out Q.hp.length HLT.out)
  clear hb2 HL HQ1 HF1
  go_wp2_with fail
  refine HU.out.mono ?_
  rintro e w3 ⟨rfl, hq3, hf3⟩
  have HQ3 := hide hq3
  have HF3 := hide (HF2.out.trans hf3)
  clear hq3 hf3 HU
  go_wp2
  go_end0
  exact ⟨rfl, X', ⟨vh', HQ3.out⟩, HF3.out⟩
set_option maxHeartbeats 4000000 in
theorem hpop_any (w : World) (X : Nat → Prop) (q gp gw : Nat) (vh : Value) (Q : Qu) (h : Qm w X q gp gw vh Q) (n : Nat) (ok : QOk n Q) (hl : 0 < Q.hp.length) :
    Calls Tryz.prog 227 #[.iface 201 (.pointer (some ⟨q, 0, none⟩))] w fun e w' => (∃ v, e = .returned (.iface 3 (.int .i64 v))) ∧ (∃ vh', Qm w' X q gp gw vh' Q.hpop) ∧ Fr X w w' X := by
  have HL := hide (len_any w X q gp gw vh Q h)
  have HQ := hide h
  have HOK := hide ok
  have hml := mLen q
  have hms := mSwap q
  have hmp := mPop q
  obtain ⟨k, hk⟩ : ∃ k : Nat, Q.hp.length = k + 1 := ⟨Q.hp.length - 1, by omega⟩
  have hkm : k ≤ 1000000 := by have := ok.len; omega
  have w1 := wrap_in ((k : Int) + 1 - 1) (by omega) (by omega)
  have HP : Hid (Q.hpop = ((Q.swap 0 k).dn 0 k).1.pop) := by unfold Hid Qu.hpop; rw [hk]; rfl
  have hk1 : ((k + 1 : Nat) : Int) = (k : Int) + 1 := by omega
  have HK := hide hk
  rw [hk, hk1] at HL
  clear h ok hl hk
  go_enter Tryz.func227, Tryz.ntmps227
  go_wp2_with fail
  refine HL.out.mono ?_
  rintro e wa ⟨rfl, hba⟩
  have HQA := hide (HQ.out.later hba)
  have HFA := hide (Fr.quiet (X := X) hba)
  have HSW := hide (swap_any wa X q gp gw vh Q HQA.out n HOK.out 0 k (by rw [HK.out]; omega) (by rw [HK.out]; omega))
  clear hba HL HQ
  go_wp2_with fail
  refine HSW.out.mono ?_
  rintro e wb ⟨rfl, hqb, hfb⟩
  have HQB := hide hqb
  have HFB := hide (HFA.out.trans hfb)
  have HOB := hide (HOK.out.swap (i := 0) (j := k) (by rw [HK.out]; omega) (by rw [HK.out]; omega))
  have HD := hide (down_any wb X q gp gw vh (Q.swap 0 k) hqb n HOB.out 0 k (by rw [swap_len, HK.out]; omega) (by omega))
  have HOD := hide (dn_ok HOB.out 0 (m := k) (by rw [swap_len, HK.out]; omega))
  clear hqb hfb HSW HQA HFA
  go_wp2_with fail
  refine HD.out.mono ?_
  rintro e wc ⟨rfl, hqc, hfc⟩
  have HFC := hide (HFB.out.trans hfc)
  have HPP := hide (pop_any wc X q gp gw vh ((Q.swap 0 k).dn 0 k).1 hqc n HOD.out.1 (by rw [HOD.out.2, swap_len, HK.out]; omega))
  clear hqc hfc HD HQB HFB
  go_wp2_with fail
  refine HPP.out.mono ?_
  rintro e wd ⟨rfl, hqd, hfd⟩
  have HQD := hide hqd
  have HFD := hide (HFC.out.trans hfd)
  clear hqd hfd HPP HFC
  go_wp2
  go_ret
  exact ⟨⟨_, rfl⟩, by rw [HP.out]; exact HQD.out, HFD.out⟩
set_option maxHeartbeats 4000000 in
theorem fix_any (w : World) (X : Nat → Prop) (q gp gw : Nat) (vh : Value) (Q : Qu) (h : Qm w X q gp gw vh Q) (n : Nat) (ok : QOk n Q) (i : Nat) (hi : i < Q.hp.length) :
    Calls Tryz.prog 224 #[.iface 201 (.pointer (some ⟨q, 0, none⟩)), .int .i64 i] w fun e w' => e = .returned (.tuple #[]) ∧ Qm w' X q gp gw vh (Q.fix i) ∧ Fr X w w' X := by
  have HL := hide (len_any w X q gp gw vh Q h)
  have HQ := hide h
  have HOK := hide ok
  have HI := hide hi
  have hml := mLen q
  have HI6 : Hid (i ≤ 1000000) := by have := ok.len; unfold Hid; omega
  have HD2 := hide (dn_ok ok i (Nat.le_refl Q.hp.length))
  have HFX : Hid (Q.fix i = if i < (Q.dn i Q.hp.length).2 then (Q.dn i Q.hp.length).1 else (Q.dn i Q.hp.length).1.up i) := rfl
  clear h ok hi
  go_enter Tryz.func224, Tryz.ntmps224
  go_wp2_with fail
  refine HL.out.mono ?_
  rintro e wa ⟨rfl, hba⟩
  have HFA := hide (Fr.quiet (X := X) hba)
  have HD := hide (down_any wa X q gp gw vh Q (HQ.out.later hba) n HOK.out i Q.hp.length (Nat.le_refl _) HI6.out)
  clear hba HL HQ
  go_wp2_with fail
  refine HD.out.mono ?_
  rintro e wb ⟨rfl, hqb, hfb⟩
  have HQB := hide hqb
  have HFB := hide (HFA.out.trans hfb)
  have hfx := HFX.out
  clear hqb hfb HD HFA HFX
  by_cases hlt : i < (Q.dn i Q.hp.length).2
  · rw [if_pos hlt] at hfx
    have HE := hide hfx
    rw [decide_eq_true hlt]
    clear hfx hlt
    go_wp2
    go_end0
    exact ⟨rfl, by rw [HE.out]; exact HQB.out, HFB.out⟩
  · rw [if_neg hlt] at hfx
    have HE := hide hfx
    have HU := hide (up_any wb X q gp gw vh (Q.dn i Q.hp.length).1 HQB.out n HD2.out.1 i (by rw [HD2.out.2]; exact HI.out))
    rw [decide_eq_false hlt]
    clear hfx hlt
    go_wp2_with fail
    refine HU.out.mono ?_
    rintro e wc ⟨rfl, hqc, hfc⟩
    have HQC := hide hqc
    have HFC := hide (HFB.out.trans hfc)
    clear hqc hfc HU
    go_wp2
    go_end0
    exact ⟨rfl, by rw [HE.out]; exact HQC.out, HFC.out⟩
end Go.Proofs.YtjhkecnnhddhbaaGreatDoor.Sr
