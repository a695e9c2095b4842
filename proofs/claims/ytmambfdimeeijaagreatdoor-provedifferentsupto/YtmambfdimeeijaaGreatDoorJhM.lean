/- A queue's heap: up. -/
import Derived.Test.YtmambfdimeeijaaGreatDoorJcM
namespace Go.Proofs.YtmambfdimeeijaaGreatDoor.Sr
open Go.RowKit Go.Maps Go.Proofs.YtmambfdimeeijaaGreatDoor.Pf
set_option maxRecDepth 100000
theorem mLess (q : Nat) (w : World) : (method 464 209 (.pointer (some ⟨q, 0, none⟩)) "Less").run Tryz.prog w = .ok (354, .pointer (some ⟨q, 0, none⟩)) w := by kernel_rfl
theorem mSwap (q : Nat) (w : World) : (method 464 209 (.pointer (some ⟨q, 0, none⟩)) "Swap").run Tryz.prog w = .ok (356, .pointer (some ⟨q, 0, none⟩)) w := by kernel_rfl
theorem mLen (q : Nat) (w : World) : (method 464 209 (.pointer (some ⟨q, 0, none⟩)) "Len").run Tryz.prog w = .ok (208, .pointer (some ⟨q, 0, none⟩)) w := by kernel_rfl
theorem mPop (q : Nat) (w : World) : (method 464 209 (.pointer (some ⟨q, 0, none⟩)) "Pop").run Tryz.prog w = .ok (355, .pointer (some ⟨q, 0, none⟩)) w := by kernel_rfl
end Go.Proofs.YtmambfdimeeijaaGreatDoor.Sr

namespace Go.Proofs.YtmambfdimeeijaaGreatDoor.Sr
open Go.RowKit Go.Maps Go.Proofs.YtmambfdimeeijaaGreatDoor.Pf
set_option maxRecDepth 100000
def Qu.kid (Q : Qu) (i m : Nat) : Nat := if 2 * i + 1 + 1 < m then (if Q.less (2 * i + 1 + 1) (2 * i + 1) then 2 * i + 1 + 1 else 2 * i + 1) else 2 * i + 1
def dnN : Nat → Qu → Nat → Nat → Qu × Nat
 | 0, Q, i, _ => (Q, i)
 | f + 1, Q, i, m => if m ≤ 2 * i + 1 then (Q, i) else if Q.less (Q.kid i m) i then dnN f (Q.swap i (Q.kid i m)) (Q.kid i m) m else (Q, i)
def Qu.dn (Q : Qu) (i m : Nat) : Qu × Nat := dnN m Q i m
theorem dnN_succ (f : Nat) (Q : Qu) (i m : Nat) : dnN (f + 1) Q i m = if m ≤ 2 * i + 1 then (Q, i) else if Q.less (Q.kid i m) i then dnN f (Q.swap i (Q.kid i m)) (Q.kid i m) m else (Q, i) := rfl
theorem kid_lt {Q : Qu} {i m : Nat} (h : ¬ m ≤ 2 * i + 1) : i < Q.kid i m ∧ Q.kid i m < m := by
 unfold Qu.kid
 split
 · split <;> omega
 · omega
theorem dn_more : ∀ (f : Nat) (Q : Qu) (i m : Nat), m ≤ f + i → dnN (f + 1) Q i m = dnN f Q i m := by
 intro f
 induction f with
 | zero => intro Q i m h; rw [dnN_succ, if_pos (by omega)]; rfl
 | succ f ih =>
   intro Q i m h
   conv => lhs; rw [dnN_succ]
   conv => rhs; rw [dnN_succ]
   by_cases h0 : m ≤ 2 * i + 1
   · rw [if_pos h0, if_pos h0]
   · have := (kid_lt (Q := Q) h0).1
     rw [if_neg h0, if_neg h0, ih _ _ _ (by omega)]
theorem dn_fuel (Q : Qu) (i m : Nat) : ∀ d f, m ≤ f + i → dnN (f + d) Q i m = dnN f Q i m := by
 intro d
 induction d with
 | zero => intro f _; rfl
 | succ d ih => intro f h; rw [← ih f h]; exact dn_more (f + d) Q i m (by omega)
theorem dn_same (Q : Qu) (i m f g : Nat) (hf : m ≤ f + i) (hg : m ≤ g + i) : dnN f Q i m = dnN g Q i m := by
 rcases Nat.le_total f g with h | h
 · have := dn_fuel Q i m (g - f) f hf
   rw [show f + (g - f) = g by omega] at this
   exact this.symm
 · have := dn_fuel Q i m (f - g) g hg
   rw [show g + (f - g) = f by omega] at this
   exact this
theorem dn_end {Q : Qu} {i m : Nat} (h : m ≤ 2 * i + 1) : Q.dn i m = (Q, i) := by
 unfold Qu.dn
 rw [dn_same Q i m m (m + 1) (by omega) (by omega), dnN_succ, if_pos h]
theorem dn_stop {Q : Qu} {i m : Nat} (h : Q.less (Q.kid i m) i = false) : Q.dn i m = (Q, i) := by
 unfold Qu.dn
 rw [dn_same Q i m m (m + 1) (by omega) (by omega), dnN_succ]
 split
 · rfl
 · rw [if_neg (by simp [h])]
theorem dn_step {Q : Qu} {i m : Nat} (h0 : ¬ m ≤ 2 * i + 1) (h : Q.less (Q.kid i m) i = true) : Q.dn i m = (Q.swap i (Q.kid i m)).dn (Q.kid i m) m := by
 unfold Qu.dn
 rw [dn_same Q i m m (m + 1) (by omega) (by omega), dnN_succ, if_neg h0, if_pos h]
set_option maxHeartbeats 4000000 in
theorem down_any (w : World) (X : Nat → Prop) (q gp gw : Nat) (vh : Value) (Q : Qu) (h : Qm w X q gp gw vh Q) (n : Nat) (ok : QOk n Q) (i0 m : Nat) (hm : m ≤ Q.hp.length) (hi : i0 ≤ 1000000) :
   Calls Tryz.prog 247 #[.iface 209 (.pointer (some ⟨q, 0, none⟩)), .int .i64 i0, .int .i64 m] w fun e w' => e = .returned (.bool (decide (i0 < (Q.dn i0 m).2))) ∧ Qm w' X q gp gw vh (Q.dn i0 m).1 ∧ Fr X w w' X := by
 have HJ0 : Hid (Qm w X q gp gw vh Q ∧ QOk n Q ∧ Fr X w w X) := ⟨h, ok, Fr.refl _ _⟩
 have hm6 : m ≤ 1000000 := by have := ok.len; omega
 have hml := mLess q
 have hms := mSwap q
 clear h ok
 go_enter Tryz.func247, Tryz.ntmps247
 go_wp2_with fail
 go_loopw [7] (fun t wr => ∃ (k : Nat) (Q' : Qu), k ≤ 1000000 ∧ t = .int .i64 k ∧ Hid (Qm wr X q gp gw vh Q' ∧ QOk n Q' ∧ Fr X w wr X ∧ Q'.hp.length = Q.hp.length ∧ Q'.dn k m = Q.dn i0 m)) (fun t _ => m - (intOf t).toNat)
 case atStart => exact ⟨i0, Q, hi, rfl, HJ0.out.1, HJ0.out.2.1, HJ0.out.2.2, rfl, rfl⟩
 case round =>
   obtain ⟨k, Q', hk, rfl, HJ⟩ := hrel
   have w1 := wrap_in (2 * (k : Int)) (by omega) (by omega)
   have w2 := wrap_in (2 * (k : Int) + 1) (by omega) (by omega)
   have w3 := wrap_in (2 * (k : Int) + 1 + 1) (by omega) (by omega)
   have hn0 : ¬ (2 * (k : Int) + 1 < 0) := by omega
   have hlq : Q'.hp.length = Q.hp.length := HJ.out.2.2.2.1
   by_cases hmk : m ≤ 2 * k + 1
   · have hmi : (m : Int) ≤ 2 * (k : Int) + 1 := by omega
     have HU : Hid ((Q', k) = Q.dn i0 m) := (dn_end hmk).symm.trans HJ.out.2.2.2.2
     clear hmk
     go_wp2
     go_ret
     exact ⟨by rw [← HU.out]; rfl, by rw [← HU.out]; exact HJ.out.1, HJ.out.2.2.1⟩
   · have hmi : ¬ (m : Int) ≤ 2 * (k : Int) + 1 := by omega
     have j1 : ((2 * k + 1 : Nat) : Int) = 2 * (k : Int) + 1 := by omega
     have j2 : ((2 * k + 1 + 1 : Nat) : Int) = 2 * (k : Int) + 1 + 1 := by omega
     by_cases h2 : 2 * k + 1 + 1 < m
     · have h2i : 2 * (k : Int) + 1 + 1 < (m : Int) := by omega
       have hL1 := less_any wr X q gp gw vh Q' HJ.out.1 n HJ.out.2.1 (2 * k + 1 + 1) (2 * k + 1) (by omega) (by omega)
       rw [j1, j2] at hL1
       have HL1 := hide hL1
       clear hL1
       go_wp2_with fail
       refine HL1.out.mono ?_
       rintro e wa ⟨rfl, hba⟩
       have HBA := hide hba
       clear hba HL1
       cases hl1 : Q'.less (2 * k + 1 + 1) (2 * k + 1)
       · have HKk : Hid (Q'.kid k m = 2 * k + 1) := by unfold Hid Qu.kid; rw [if_pos h2, if_neg (by simp [hl1])]
         clear hl1
         have HKD : Hid (Q'.kid k m = 2 * k + 1) := HKk.out
         clear HKk
         have hLS := less_any wa X q gp gw vh Q' (HJ.out.1.later HBA.out) n HJ.out.2.1 (2 * k + 1) k (by omega) (by omega)
         rw [j1] at hLS
         have HLS := hide hLS
         clear hLS
         go_wp2_with fail
         refine HLS.out.mono ?_
         rintro e w3 ⟨rfl, hb3⟩
         have HB3 := hide (bthen HBA.out hb3)
         clear hb3 HLS
         cases hl2 : Q'.less (2 * k + 1) k
         · have HU : Hid ((Q', k) = Q.dn i0 m) := (dn_stop (by rw [HKD.out]; exact hl2)).symm.trans HJ.out.2.2.2.2
           go_wp2
           go_ret
           exact ⟨by rw [← HU.out]; rfl, by rw [← HU.out]; exact HJ.out.1.later HB3.out, HJ.out.2.2.1.trans (Fr.quiet HB3.out)⟩
         · have HU : Hid ((Q'.swap k (2 * k + 1)).dn (2 * k + 1) m = Q.dn i0 m) := by
             have h1 := dn_step (Q := Q') (i := k) (m := m) (by omega) (by rw [HKD.out]; exact hl2)
             rw [HKD.out] at h1
             exact h1.symm.trans HJ.out.2.2.2.2
           have hSW := swap_any w3 X q gp gw vh Q' (HJ.out.1.later HB3.out) n HJ.out.2.1 k (2 * k + 1) (by omega) (by omega)
           rw [j1] at hSW
           have HSW := hide hSW
           clear hSW
           go_wp2_with fail
           refine HSW.out.mono ?_
           rintro e w4 ⟨rfl, hq4, hf4⟩
           have HQ4 := hide hq4
           have HF4 := hide ((HJ.out.2.2.1.trans (Fr.quiet HB3.out)).trans hf4)
           have HOK := hide (HJ.out.2.1.swap (i := k) (j := 2 * k + 1) (by omega) (by omega))
           clear hq4 hf4 HSW
           go_wp2
           go_roundw
           case rel => exact ⟨2 * k + 1, Q'.swap k (2 * k + 1), by omega, by rw [j1], HQ4.out, HOK.out, HF4.out, by simp only [Qu.swap, List.length_set]; exact HJ.out.2.2.2.1, HU.out⟩
           case measure => simp [intOf]; omega
       · have HKk : Hid (Q'.kid k m = 2 * k + 1 + 1) := by unfold Hid Qu.kid; rw [if_pos h2, if_pos hl1]
         clear hl1
         have HKD : Hid (Q'.kid k m = 2 * k + 1 + 1) := HKk.out
         clear HKk
         have hLS := less_any wa X q gp gw vh Q' (HJ.out.1.later HBA.out) n HJ.out.2.1 (2 * k + 1 + 1) k (by omega) (by omega)
         rw [j2] at hLS
         have HLS := hide hLS
         clear hLS
         go_wp2_with fail
         refine HLS.out.mono ?_
         rintro e w3 ⟨rfl, hb3⟩
         have HB3 := hide (bthen HBA.out hb3)
         clear hb3 HLS
         cases hl2 : Q'.less (2 * k + 1 + 1) k
         · have HU : Hid ((Q', k) = Q.dn i0 m) := (dn_stop (by rw [HKD.out]; exact hl2)).symm.trans HJ.out.2.2.2.2
           go_wp2
           go_ret
           exact ⟨by rw [← HU.out]; rfl, by rw [← HU.out]; exact HJ.out.1.later HB3.out, HJ.out.2.2.1.trans (Fr.quiet HB3.out)⟩
         · have HU : Hid ((Q'.swap k (2 * k + 1 + 1)).dn (2 * k + 1 + 1) m = Q.dn i0 m) := by
             have h1 := dn_step (Q := Q') (i := k) (m := m) (by omega) (by rw [HKD.out]; exact hl2)
             rw [HKD.out] at h1
             exact h1.symm.trans HJ.out.2.2.2.2
           have hSW := swap_any w3 X q gp gw vh Q' (HJ.out.1.later HB3.out) n HJ.out.2.1 k (2 * k + 1 + 1) (by omega) (by omega)
           rw [j2] at hSW
           have HSW := hide hSW
           clear hSW
           go_wp2_with fail
           refine HSW.out.mono ?_
           rintro e w4 ⟨rfl, hq4, hf4⟩
           have HQ4 := hide hq4
           have HF4 := hide ((HJ.out.2.2.1.trans (Fr.quiet HB3.out)).trans hf4)
           have HOK := hide (HJ.out.2.1.swap (i := k) (j := 2 * k + 1 + 1) (by omega) (by omega))
           clear hq4 hf4 HSW
           go_wp2
           go_roundw
           case rel => exact ⟨2 * k + 1 + 1, Q'.swap k (2 * k + 1 + 1), by omega, by rw [j2], HQ4.out, HOK.out, HF4.out, by simp only [Qu.swap, List.length_set]; exact HJ.out.2.2.2.1, HU.out⟩
           case measure => simp [intOf]; omega
     · have h2i : ¬ 2 * (k : Int) + 1 + 1 < (m : Int) := by omega
       have HKk : Hid (Q'.kid k m = 2 * k + 1) := by unfold Hid Qu.kid; rw [if_neg h2]
       have HKD : Hid (Q'.kid k m = 2 * k + 1) := HKk.out
       clear HKk
       have hLS := less_any wr X q gp gw vh Q' (HJ.out.1.later (Below.refl _ wr)) n HJ.out.2.1 (2 * k + 1) k (by omega) (by omega)
       rw [j1] at hLS
       have HLS := hide hLS
       clear hLS
       go_wp2_with fail
       refine HLS.out.mono ?_
       rintro e w3 ⟨rfl, hb3⟩
       have HB3 := hide (bthen (Below.refl _ wr) hb3)
       clear hb3 HLS
       cases hl2 : Q'.less (2 * k + 1) k
       · have HU : Hid ((Q', k) = Q.dn i0 m) := (dn_stop (by rw [HKD.out]; exact hl2)).symm.trans HJ.out.2.2.2.2
         go_wp2
         go_ret
         exact ⟨by rw [← HU.out]; rfl, by rw [← HU.out]; exact HJ.out.1.later HB3.out, HJ.out.2.2.1.trans (Fr.quiet HB3.out)⟩
       · have HU : Hid ((Q'.swap k (2 * k + 1)).dn (2 * k + 1) m = Q.dn i0 m) := by
           have h1 := dn_step (Q := Q') (i := k) (m := m) (by omega) (by rw [HKD.out]; exact hl2)
           rw [HKD.out] at h1
           exact h1.symm.trans HJ.out.2.2.2.2
         have hSW := swap_any w3 X q gp gw vh Q' (HJ.out.1.later HB3.out) n HJ.out.2.1 k (2 * k + 1) (by omega) (by omega)
         rw [j1] at hSW
         have HSW := hide hSW
         clear hSW
         go_wp2_with fail
         refine HSW.out.mono ?_
         rintro e w4 ⟨rfl, hq4, hf4⟩
         have HQ4 := hide hq4
         have HF4 := hide ((HJ.out.2.2.1.trans (Fr.quiet HB3.out)).trans hf4)
         have HOK := hide (HJ.out.2.1.swap (i := k) (j := 2 * k + 1) (by omega) (by omega))
         clear hq4 hf4 HSW
         go_wp2
         go_roundw
         case rel => exact ⟨2 * k + 1, Q'.swap k (2 * k + 1), by omega, by rw [j1], HQ4.out, HOK.out, HF4.out, by simp only [Qu.swap, List.length_set]; exact HJ.out.2.2.2.1, HU.out⟩
         case measure => simp [intOf]; omega
end Go.Proofs.YtmambfdimeeijaaGreatDoor.Sr

namespace Go.Proofs.YtmambfdimeeijaaGreatDoor.Sr
open Go.RowKit Go.Maps Go.Proofs.YtmambfdimeeijaaGreatDoor.Pf
set_option maxRecDepth 100000
theorem swap_len (Q : Qu) (i j : Nat) : (Q.swap i j).hp.length = Q.hp.length := by simp [Qu.swap]
theorem dnN_ok {n m : Nat} : ∀ (f : Nat) (Q : Qu) (i : Nat), QOk n Q → m ≤ Q.hp.length → QOk n (dnN f Q i m).1 ∧ (dnN f Q i m).1.hp.length = Q.hp.length := by
 intro f
 induction f with
 | zero => intro Q i h _; exact ⟨h, rfl⟩
 | succ f ih =>
   intro Q i h hm
   rw [dnN_succ]
   split
   · exact ⟨h, rfl⟩
   · rename_i h0
     split
     · have hk := kid_lt (Q := Q) h0
       have h1 := ih (Q.swap i (Q.kid i m)) (Q.kid i m) (h.swap (by omega) (by omega)) (by rw [swap_len]; exact hm)
       rw [swap_len] at h1
       exact h1
     · exact ⟨h, rfl⟩
theorem dn_ok {n m : Nat} {Q : Qu} (h : QOk n Q) (i : Nat) (hm : m ≤ Q.hp.length) : QOk n (Q.dn i m).1 ∧ (Q.dn i m).1.hp.length = Q.hp.length := dnN_ok _ Q i h hm
def Qu.hpop (Q : Qu) : Qu := ((Q.swap 0 (Q.hp.length - 1)).dn 0 (Q.hp.length - 1)).1.pop
theorem hpop_ok {n : Nat} {Q : Qu} (h : QOk n Q) (hl : 0 < Q.hp.length) : QOk n Q.hpop ∧ Q.hpop.hp.length = Q.hp.length - 1 := by
 have h1 := dn_ok (h.swap (i := 0) (j := Q.hp.length - 1) hl (by omega)) 0 (m := Q.hp.length - 1) (by rw [swap_len]; omega)
 rw [swap_len] at h1
 refine ⟨h1.1.pop, ?_⟩
 unfold Qu.hpop Qu.pop
 simp [h1.2]
set_option maxHeartbeats 4000000 in
theorem hpop_any (w : World) (X : Nat → Prop) (q gp gw : Nat) (vh : Value) (Q : Qu) (h : Qm w X q gp gw vh Q) (n : Nat) (ok : QOk n Q) (hl : 0 < Q.hp.length) :
   Calls Tryz.prog 232 #[.iface 209 (.pointer (some ⟨q, 0, none⟩))] w fun e w' => (∃ v, e = .returned (.iface 3 (.int .i64 v))) ∧ (∃ vh', Qm w' X q gp gw vh' Q.hpop) ∧ Fr X w w' X := by
 have HL := hide (len_any w X q gp gw vh Q h)
 have HQ := hide h
 have HOK := hide ok
 have hml := mLen q
 have hms := mSwap q
 have hmp := mPop q
 obtain ⟨k, hk⟩ : ∃ k : Nat, Q.hp.length = k + 1 := ⟨Q.hp.length - 1, by omega⟩
 have hkm : k ≤ 1000000 := by have := ok.len; omega
 have w1 := wrap_in ((k : Int) + 1 - 1) (by omega) (by omega)
 have HP : Hid (Q.hpop = ((Q.swap 0 k).dn 0 k).1.pop) := by unfold Hid Qu.hpop; rw [hk]; rfl
 have hk1 : ((k + 1 : Nat) : Int) = (k : Int) + 1 := by omega
 have HK := hide hk
 rw [hk, hk1] at HL
 clear h ok hl hk
 go_enter Tryz.func232, Tryz.ntmps232
 go_wp2_with fail
 refine HL.out.mono ?_
 rintro e wa ⟨rfl, hba⟩
 have HQA := hide (HQ.out.later hba)
 have HFA := hide (Fr.quiet (X := X) hba)
 have HSW := hide (swap_any wa X q gp gw vh Q HQA.out n HOK.out 0 k (by rw [HK.out]; omega) (by rw [HK.out]; omega))
 clear hba HL HQ
 go_wp2_with fail
 refine HSW.out.mono ?_
 rintro e wb ⟨rfl, hqb, hfb⟩
 have HQB := hide hqb
 have HFB := hide (HFA.out.trans hfb)
 have HOB := hide (HOK.out.swap (i := 0) (j := k) (by rw [HK.out]; omega) (by rw [HK.out]; omega))
 have HD := hide (down_any wb X q gp gw vh (Q.swap 0 k) hqb n HOB.out 0 k (by rw [swap_len, HK.out]; omega) (by omega))
 have HOD := hide (dn_ok HOB.out 0 (m := k) (by rw [swap_len, HK.out]; omega))
 clear hqb hfb HSW HQA HFA
 go_wp2_with fail
 refine HD.out.mono ?_
 rintro e wc ⟨rfl, hqc, hfc⟩
 have HFC := hide (HFB.out.trans hfc)
 have HPP := hide (pop_any wc X q gp gw vh ((Q.swap 0 k).dn 0 k).1 hqc n HOD.out.1 (by rw [HOD.out.2, swap_len, HK.out]; omega))
 clear hqc hfc HD HQB HFB
 go_wp2_with fail
 refine HPP.out.mono ?_
 rintro e wd ⟨rfl, hqd, hfd⟩
 have HQD := hide hqd
 have HFD := hide (HFC.out.trans hfd)
 clear hqd hfd HPP HFC
 go_wp2
 go_ret
 exact ⟨⟨_, rfl⟩, by rw [HP.out]; exact HQD.out, HFD.out⟩
end Go.Proofs.YtmambfdimeeijaaGreatDoor.Sr

namespace Go.Proofs.YtmambfdimeeijaaGreatDoor.Sr
open Go.RowKit Go.Maps Go.Proofs.YtmambfdimeeijaaGreatDoor.Pf
set_option maxRecDepth 100000
set_option maxHeartbeats 4000000 in
theorem first_any (w : World) (X : Nat → Prop) (q gp gw : Nat) (vh : Value) (Q : Qu) (h : Qm w X q gp gw vh Q) (n : Nat) (ok : QOk n Q) (hl : 0 < Q.hp.length) :
   Calls Tryz.prog 209 #[.pointer (some ⟨q, 0, none⟩)] w fun e w' => e = .returned (.int .i64 (Q.at 0)) ∧ (∃ vh', Qm w' X q gp gw vh' Q.hpop) ∧ Fr X w w' X := by
 have HP := hide (hpop_any w X q gp gw vh Q h n ok hl)
 have c0 := h.c0
 obtain ⟨g, cap, rfl, hr⟩ := h.row hl
 have r0 := (hr 0 hl).1
 have e1 : (0 : Int) < (Q.hp.length : Int) := by omega
 clear h ok hr
 go_enter Tryz.func209, Tryz.ntmps209
 go_wp2_with fail
 refine HP.out.mono ?_
 rintro e w1 ⟨⟨v, rfl⟩, hq1, hf1⟩
 have HQ1 := hide hq1
 have HF1 := hide hf1
 clear hq1 hf1 HP
 go_wp2
 go_ret
 exact ⟨rfl, HQ1.out, HF1.out⟩
def loadM : Op := .load 3 (.tmp 10)
theorem loadM_is : loadM = Op.load 3 (.tmp 10) := rfl
attribute [local go_sem] loadM_is
def loadG : Op := .load 3 (.tmp 5)
theorem loadG_is : loadG = Op.load 3 (.tmp 5) := rfl
def loadH : Op := .load 3 (.tmp 9)
theorem loadH_fold : Op.load 3 (.tmp 9) = loadH := rfl
theorem loadH_is : loadH = Op.load 3 (.tmp 9) := rfl
attribute [local go_sem] loadG_is
attribute [local go_sem] loadH_is
end Go.Proofs.YtmambfdimeeijaaGreatDoor.Sr

namespace Go.Proofs.YtmambfdimeeijaaGreatDoor.Sr
open Go.RowKit Go.Maps Go.Proofs.YtmambfdimeeijaaGreatDoor.Pf
set_option maxRecDepth 100000
def newQ (V : Nat) : Nat → Qu
 | 0 => ⟨[], List.replicate (V + 1) 0, List.replicate (V + 1) 0, 1024⟩
 | k + 1 => (newQ V k).push (k + 1 : Nat)
theorem newQ_ok (V : Nat) (hV : V < 1000000) : ∀ k, k ≤ V → QOk (V + 1) (newQ V k) ∧ (newQ V k).hp.length = k := by
 intro k
 induction k with
 | zero => intro _; exact ⟨⟨by simp [newQ], by simp [newQ], fun v hv => by simp [newQ] at hv, by simp [newQ], by omega⟩, rfl⟩
 | succ k ih =>
   intro hk
   obtain ⟨h1, h2⟩ := ih (by omega)
   exact ⟨h1.push (v := (k + 1 : Nat)) (by omega) (by omega) (by omega), by simp [newQ, Qu.push, h2]⟩
theorem make_zeros (N : Nat) (h2 : N ≤ 1000000) (w : World) : (Instr.makeSlice 25 (.int .i64 (N : Int)) (.int .i64 (N : Int))).run Tryz.prog w = .ok (.slice (some ⟨w.heap.size, 0, none⟩) N N) (w.alloc (.cells ((List.replicate N (0 : Int)).map (Value.int .i64)).toArray 3)) := by
 obtain ⟨i0, hi, hz0, hz1, hz2⟩ := info_parts info3
 have h := run_makeSlice (P := Tryz.prog) w 25 3 i0 (.int .i64 0) Tryz.underlying25 hi hz0 .i64 .i64 (N : Int) (N : Int) (by omega) (by omega) (by rw [hz1]; simp; omega) (by rw [hz2]; omega) (by omega)
 rw [hz1, Nat.mul_one, Int.toNat_natCast] at h
 rw [h]
 congr 3
 apply Array.toList_inj.1
 rw [show (Value.cells (.int .i64 0)) = #[.int .i64 0] from rfl, toList_madeCells_one]
 simp
theorem new_qm (V : Nat) (w : World) (a b : Nat) (hab : (a = w.heap.size ∧ b = w.heap.size + 1) ∨ (a = w.heap.size + 1 ∧ b = w.heap.size)) :
   Qm (((w.alloc (.cells (Array.replicate (V + 1) (.int .i64 0)) 3)).alloc (.cells (Array.replicate (V + 1) (.int .i64 0)) 3)).alloc (.cells #[.slice none 0 0, .slice (some ⟨a, 0, none⟩) (V + 1) (V + 1), .slice (some ⟨b, 0, none⟩) (V + 1) (V + 1), .int .i64 1024] 222)).drew (fun g => g = w.heap.size ∨ g = w.heap.size + 1 ∨ g = w.heap.size + 1 + 1) (w.heap.size + 1 + 1) a b (.slice none 0 0) (newQ V 0) := by
 generalize hcz : (Array.replicate (V + 1) (Value.int .i64 0)) = cz
 have hcz' : cz = ((List.replicate (V + 1) (0 : Int)).map (Value.int .i64)).toArray := by rw [← hcz]; simp
 have h0 := heap_alloc_new w (.cells cz 3)
 have h1 := heap_alloc_new (w.alloc (.cells cz 3)) (.cells cz 3)
 rw [World.size_alloc] at h1
 have h2 := heap_alloc_new ((w.alloc (.cells cz 3)).alloc (.cells cz 3)) (.cells #[.slice none 0 0, .slice (some ⟨a, 0, none⟩) (V + 1) (V + 1), .slice (some ⟨b, 0, none⟩) (V + 1) (V + 1), .int .i64 1024] 222)
 rw [World.size_alloc, World.size_alloc] at h2
 have e0 : (((w.alloc (.cells cz 3)).alloc (.cells cz 3)).alloc (.cells #[.slice none 0 0, .slice (some ⟨a, 0, none⟩) (V + 1) (V + 1), .slice (some ⟨b, 0, none⟩) (V + 1) (V + 1), .int .i64 1024] 222)).heap[w.heap.size]? = some (.cells cz 3 (0, 0)) :=
   (Below.heap_alloc _ _ _ (by simp; omega)).trans ((Below.heap_alloc _ _ _ (by simp)).trans h0)
 have e1 : (((w.alloc (.cells cz 3)).alloc (.cells cz 3)).alloc (.cells #[.slice none 0 0, .slice (some ⟨a, 0, none⟩) (V + 1) (V + 1), .slice (some ⟨b, 0, none⟩) (V + 1) (V + 1), .int .i64 1024] 222)).heap[w.heap.size + 1]? = some (.cells cz 3 (0, 0)) :=
   (Below.heap_alloc _ _ _ (by simp)).trans h1
 have hl : (newQ V 0).pl.length = V + 1 := by simp [newQ]
 have hl2 : (newQ V 0).wt.length = V + 1 := by simp [newQ]
 have hsz : (((w.alloc (.cells cz 3)).alloc (.cells cz 3)).alloc (.cells #[.slice none 0 0, .slice (some ⟨a, 0, none⟩) (V + 1) (V + 1), .slice (some ⟨b, 0, none⟩) (V + 1) (V + 1), .int .i64 1024] 222)).drew.heap.size = w.heap.size + 1 + 1 + 1 := by simp
 have hP : some (Obj.cells ((newQ V 0).pl.map (Value.int .i64)).toArray 3 (0, 0)) = some (.cells cz 3 (0, 0)) := by rw [hcz']; rfl
 have hW : some (Obj.cells ((newQ V 0).wt.map (Value.int .i64)).toArray 3 (0, 0)) = some (.cells cz 3 (0, 0)) := by rw [hcz']; rfl
 refine ⟨by rw [hl, hl2]; exact h2, ⟨rfl, .inl ⟨rfl, rfl⟩⟩, ?_, ?_, by omega, fun h => (by cases h), fun h => (by cases h), .inr (.inr rfl), by rcases hab with h | h <;> simp [h.1], by rcases hab with h | h <;> simp [h.2], fun g h => (by cases h), fun g hg => ?_⟩
 · rw [hP]
   rcases hab with ⟨rfl, rfl⟩ | ⟨rfl, rfl⟩
   · exact e0
   · exact e1
 · rw [hW]
   rcases hab with ⟨rfl, rfl⟩ | ⟨rfl, rfl⟩
   · exact e1
   · exact e0
 · rw [hsz]
   rcases hg with h | h | h <;> omega
def NqOut (w : World) (V : Nat) (e : Ending) (w' : World) : Prop := (∃ q gp gw, e = .returned (.pointer (some ⟨q, 0, none⟩)) ∧ ∃ X, (∃ vh, Qm w' X q gp gw vh (newQ V V)) ∧ (∀ g, X g → w.heap.size ≤ g)) ∧ Below w.heap.size w w'
set_option maxHeartbeats 4000000 in
theorem newQ_any (V : Nat) (hV : V ≤ 200000) (w : World) :
   Calls Tryz.prog 188 #[.int .i64 V] w (NqOut w V) := by
 have w1 := wrap_in ((V : Int) + 1) (by omega) (by omega)
 go_enter Tryz.func188, Tryz.ntmps188
 have w2 : IntKind.i64.wrap ((V : Int) + 1) = (V : Int) + 1 := by rw [IntKind.wrap_i64]; omega
 have hmk := make_zeros (V + 1) (by omega)
 have hv1 : ((V + 1 : Nat) : Int) = (V : Int) + 1 := by omega
 rw [hv1] at hmk
 go_wp2_with fail
 go_region_held3 (fun _ => True) (trivial) (fail)
 · have HQ0 := hide (new_qm V w (w.heap.size) (w.heap.size + 1) (.inl ⟨rfl, rfl⟩))
   have HB0 : Hid (Below w.heap.size w (((w.alloc (.cells (Array.replicate (V + 1) (.int .i64 0)) 3)).alloc (.cells (Array.replicate (V + 1) (.int .i64 0)) 3)).alloc (.cells #[.slice none 0 0, .slice (some ⟨w.heap.size, 0, none⟩) (V + 1) (V + 1), .slice (some ⟨w.heap.size + 1, 0, none⟩) (V + 1) (V + 1), .int .i64 1024] 222)).drew) := (bal (bal (bal (Below.refl _ _) _) _) _).drew
   generalize (((w.alloc (.cells (Array.replicate (V + 1) (.int .i64 0)) 3)).alloc (.cells (Array.replicate (V + 1) (.int .i64 0)) 3)).alloc (.cells #[.slice none 0 0, .slice (some ⟨w.heap.size, 0, none⟩) (V + 1) (V + 1), .slice (some ⟨w.heap.size + 1, 0, none⟩) (V + 1) (V + 1), .int .i64 1024] 222)).drew = wq at *
   have HX0 : Hid (∀ g, (g = w.heap.size ∨ g = w.heap.size + 1 ∨ g = w.heap.size + 1 + 1) → w.heap.size ≤ g) := fun g hg => by omega
   clear hmk
   go_wp2_with fail
   go_loopw [4] (fun t wr => ∃ k : Nat, k ≤ V ∧ t = .int .i64 ((k : Int) + 1) ∧ Hid (∃ X, (∃ vh, Qm wr X (w.heap.size + 1 + 1) (w.heap.size) (w.heap.size + 1) vh (newQ V k)) ∧ (∀ g, X g → w.heap.size ≤ g) ∧ Below w.heap.size w wr)) (fun t _ => V + 1 - (intOf t).toNat)
   case atStart => exact ⟨0, Nat.zero_le _, rfl, _, ⟨_, HQ0.out⟩, HX0.out, HB0.out⟩
   case round =>
     obtain ⟨k, hk, rfl, HJ⟩ := hrel
     have w3 := wrap_in ((k : Int) + 1 + 1) (by omega) (by omega)
     by_cases hkV : k < V
     · have hle : (k : Int) + 1 ≤ (V : Int) := by omega
       obtain ⟨X, ⟨vh, hq⟩, hx, hb⟩ := HJ.out
       obtain ⟨ok1, ok2⟩ := newQ_ok V (by omega) k hk
       have hp := push_any wr X (w.heap.size + 1 + 1) (w.heap.size) (w.heap.size + 1) vh (newQ V k) hq (V + 1) ok1 (k + 1) (by omega) (by omega)
       have hk1 : ((k + 1 : Nat) : Int) = (k : Int) + 1 := by omega
       rw [hk1] at hp
       have HP := hide hp
       have HX := hide hx
       have HB := hide hb
       clear hp hq hx hb ok1 ok2 HJ
       go_wp2_with fail
       refine HP.out.mono ?_
       rintro e wn ⟨rfl, X', vh', hq', hf'⟩
       have HJ' : Hid (∃ X, (∃ vh, Qm wn X (w.heap.size + 1 + 1) (w.heap.size) (w.heap.size + 1) vh (newQ V (k + 1))) ∧ (∀ g, X g → w.heap.size ≤ g) ∧ Below w.heap.size w wn) := by
         refine ⟨X', ⟨vh', ?_⟩, fun g hg => ?_, HB.out.trans (hf'.below HB.out.size HX.out)⟩
         · have e : newQ V (k + 1) = (newQ V k).push ((k : Int) + 1) := by rw [newQ, hk1]
           rw [e]
           exact hq'
         · by_cases hlt : g < wr.heap.size
           · exact HX.out g (hf'.fro g hlt hg)
           · have := HB.out.size; omega
       clear hq' hf' HP HX HB
       go_wp2
       go_roundw
       case rel => exact ⟨k + 1, by omega, by rw [hk1], HJ'⟩
       case measure => simp [intOf]; omega
     · have hle : ¬ (k : Int) + 1 ≤ (V : Int) := by omega
       have HKV : Hid (k = V) := by unfold Hid; omega
       clear hkV
       go_wp2
       go_ret
       unfold NqOut
       obtain ⟨X, hq, hx, hb⟩ := HJ.out
       rw [HKV.out] at hq
       exact ⟨⟨_, _, _, rfl, X, hq, hx⟩, hb⟩
 · have HQ0 := hide (new_qm V w (w.heap.size + 1) (w.heap.size) (.inr ⟨rfl, rfl⟩))
   have HB0 : Hid (Below w.heap.size w (((w.alloc (.cells (Array.replicate (V + 1) (.int .i64 0)) 3)).alloc (.cells (Array.replicate (V + 1) (.int .i64 0)) 3)).alloc (.cells #[.slice none 0 0, .slice (some ⟨w.heap.size + 1, 0, none⟩) (V + 1) (V + 1), .slice (some ⟨w.heap.size, 0, none⟩) (V + 1) (V + 1), .int .i64 1024] 222)).drew) := (bal (bal (bal (Below.refl _ _) _) _) _).drew
   generalize (((w.alloc (.cells (Array.replicate (V + 1) (.int .i64 0)) 3)).alloc (.cells (Array.replicate (V + 1) (.int .i64 0)) 3)).alloc (.cells #[.slice none 0 0, .slice (some ⟨w.heap.size + 1, 0, none⟩) (V + 1) (V + 1), .slice (some ⟨w.heap.size, 0, none⟩) (V + 1) (V + 1), .int .i64 1024] 222)).drew = wq at *
   have HX0 : Hid (∀ g, (g = w.heap.size ∨ g = w.heap.size + 1 ∨ g = w.heap.size + 1 + 1) → w.heap.size ≤ g) := fun g hg => by omega
   clear hmk
   go_wp2_with fail
   go_loopw [4] (fun t wr => ∃ k : Nat, k ≤ V ∧ t = .int .i64 ((k : Int) + 1) ∧ Hid (∃ X, (∃ vh, Qm wr X (w.heap.size + 1 + 1) (w.heap.size + 1) (w.heap.size) vh (newQ V k)) ∧ (∀ g, X g → w.heap.size ≤ g) ∧ Below w.heap.size w wr)) (fun t _ => V + 1 - (intOf t).toNat)
   case atStart => exact ⟨0, Nat.zero_le _, rfl, _, ⟨_, HQ0.out⟩, HX0.out, HB0.out⟩
   case round =>
     obtain ⟨k, hk, rfl, HJ⟩ := hrel
     have w3 := wrap_in ((k : Int) + 1 + 1) (by omega) (by omega)
     by_cases hkV : k < V
     · have hle : (k : Int) + 1 ≤ (V : Int) := by omega
       obtain ⟨X, ⟨vh, hq⟩, hx, hb⟩ := HJ.out
       obtain ⟨ok1, ok2⟩ := newQ_ok V (by omega) k hk
       have hp := push_any wr X (w.heap.size + 1 + 1) (w.heap.size + 1) (w.heap.size) vh (newQ V k) hq (V + 1) ok1 (k + 1) (by omega) (by omega)
       have hk1 : ((k + 1 : Nat) : Int) = (k : Int) + 1 := by omega
       rw [hk1] at hp
       have HP := hide hp
       have HX := hide hx
       have HB := hide hb
       clear hp hq hx hb ok1 ok2 HJ
       go_wp2_with fail
       refine HP.out.mono ?_
       rintro e wn ⟨rfl, X', vh', hq', hf'⟩
       have HJ' : Hid (∃ X, (∃ vh, Qm wn X (w.heap.size + 1 + 1) (w.heap.size + 1) (w.heap.size) vh (newQ V (k + 1))) ∧ (∀ g, X g → w.heap.size ≤ g) ∧ Below w.heap.size w wn) := by
         refine ⟨X', ⟨vh', ?_⟩, fun g hg => ?_, HB.out.trans (hf'.below HB.out.size HX.out)⟩
         · have e : newQ V (k + 1) = (newQ V k).push ((k : Int) + 1) := by rw [newQ, hk1]
           rw [e]
           exact hq'
         · by_cases hlt : g < wr.heap.size
           · exact HX.out g (hf'.fro g hlt hg)
           · have := HB.out.size; omega
       clear hq' hf' HP HX HB
       go_wp2
       go_roundw
       case rel => exact ⟨k + 1, by omega, by rw [hk1], HJ'⟩
       case measure => simp [intOf]; omega
     · have hle : ¬ (k : Int) + 1 ≤ (V : Int) := by omega
       have HKV : Hid (k = V) := by unfold Hid; omega
       clear hkV
       go_wp2
       go_ret
       unfold NqOut
       obtain ⟨X, hq, hx, hb⟩ := HJ.out
       rw [HKV.out] at hq
       exact ⟨⟨_, _, _, rfl, X, hq, hx⟩, hb⟩
end Go.Proofs.YtmambfdimeeijaaGreatDoor.Sr
