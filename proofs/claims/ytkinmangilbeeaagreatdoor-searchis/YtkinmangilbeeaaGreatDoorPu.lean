/- Does a clause follow, from those of a board? The walk. -/
import Derived.Test.YtkinmangilbeeaaGreatDoorLaM
namespace Go.Proofs.YtkinmangilbeeaaGreatDoor.Pf
open Go.RowKit Go.Maps Go.WideMaps
set_option maxRecDepth 100000

/-- What follows leaves. -/
def FlOut (w : World) (X : Nat → Prop) (R nS nW : Nat) (V : Int) (L : List (List Int)) (B : Bd) (c : List Int) (e : Ending) (w' : World) : Prop :=
  ∃ b B' X' nS' nW', e = .returned (.bool b) ∧ (b = true ↔ Confl L (negs c)) ∧ BdAt w' X' R nS' nW' B' ∧ Fr X w w' X' ∧ Inv V L (fun _ => False) B' ∧ B'.level = 0 ∧ (B'.lost = false → B'.spread = B'.sp.length) ∧ B'.cl.length = B.cl.length ∧ nS' ≤ nS + 1000000 ∧ nW' ≤ nW + 320100000000
/-- A board that is taken back, at the door. -/
theorem backB (w : World) (X : Nat → Prop) (R nS nW : Nat) (B : Bd) (hB : BdAt w X R nS nW B) (V : Int) (L : List (List Int)) (ch : Int → Prop) (hV : V ≤ 200000) (h : (Inv V L ch B ∧ (B.level = 0 → ch = fun _ => False)) ∨ (Inw V L ch B ∧ 0 < B.level)) (hs : B.level = 0 → B.lost = false → B.spread = B.sp.length) :
    Both 34 #[.pointer (some ⟨R, 0, none⟩), .int .i64 0] w fun e w' => ∃ v, e = .returned v ∧ ∃ B', BdAt w' X R nS nW B' ∧ Fr X w w' X ∧ Inv V L (fun _ => False) B' ∧ B'.level = 0 ∧ (B'.lost = false → B'.spread = B'.sp.length) ∧ B'.cl.length = B.cl.length := by
  obtain ⟨S, W, vc, vs, wk, cg, cc, wv, hM⟩ := hB
  obtain ⟨hwf, k, h1, h2, h3⟩ := back_zp h
  obtain ⟨f1, f2, f3⟩ := back_fin h hs
  have hb := back_both w X R S W nS nW vc vs wk cg cc wv B hM k h1 h2 h3 hwf.sn (fun x hx => (hwf.sr x hx).small hV) (by have := hwf.spLen hV; omega) hwf.sp
  have hq : ∀ (e : Ending) (w' : World), (∃ v vs', e = .returned v ∧ Mb w' X R S W nS nW vc vs' wk cg cc wv B.back ∧ Fr X w w' X) → ∃ v, e = .returned v ∧ ∃ B', BdAt w' X R nS nW B' ∧ Fr X w w' X ∧ Inv V L (fun _ => False) B' ∧ B'.level = 0 ∧ (B'.lost = false → B'.spread = B'.sp.length) ∧ B'.cl.length = B.cl.length := by
    rintro e w' ⟨v, vs', he, hm, hf⟩
    exact ⟨v, he, B.back, ⟨S, W, vc, vs', wk, cg, cc, wv, hm⟩, hf, f1, f2, f3, rfl⟩
  exact ⟨hb.1.mono hq, fun u => (hb.2 u).mono fun e u' w' ⟨e1, e2⟩ => ⟨e1, hq e w' e2⟩⟩

set_option maxHeartbeats 4000000 in
theorem follows_any (w : World) (X : Nat → Prop) (R nS nW : Nat) (B : Bd) (hB : BdAt w X R nS nW B) (V : Int) (L : List (List Int)) (hI : Inv V L (fun _ => False) B) (h0 : B.level = 0) (hsp : B.lost = false → B.spread = B.sp.length) (hV : V ≤ 200000) (hcl : B.cl.length ≤ 800000) (hnS : nS ≤ 9000000000000) (hnW : nW ≤ 700000000000000000)
    (q : Option Addr) (cq : Nat) (c : List Int) (hc : c.length ≤ 200) (hx : ∀ x ∈ c, Num V x) (hA : IntsAt w q c) (hq : 0 < c.length → ∀ a, q = some a → ¬ X a.block) :
    Calls Tryz.prog 25 #[.pointer (some ⟨R, 0, none⟩), .slice q c.length cq] w (FlOut w X R nS nW V L B c) := by
  have HX := hide hx
  have HA := hide hA
  have HQ := hide hq
  have HB := hide hB
  have HI := hide hI
  have HS := hide hsp
  obtain ⟨S0, W0, vc0, vs0, wk0, cg0, cc0, wv0, hM0⟩ := hB
  have c3 := hM0.c3
  clear hx hA hq hI hsp hM0
  cases hlo : B.lost
  · rw [hlo] at c3
    have hsp := HS.out hlo
    have HF0 : Hid (∃ B1 X1 nS1 nW1 ch, BdAt w X1 R nS1 nW1 B1 ∧ Fr X w w X1 ∧ Fol V L c 0 B B1 ch ∧ nS1 ≤ nS + 0 ∧ nW1 ≤ nW) := ⟨B, X, nS, nW, _, HB.out, Fr.refl _ _, Fol.zero HI.out h0 hsp, Nat.le_refl _, Nat.le_refl _⟩
    obtain ⟨n, hn⟩ : ∃ n, c.length = n := ⟨_, rfl⟩
    rw [hn]
    have HN := hide hn
    have HLO := hide hlo
    have hn2 : n ≤ 200 := by omega
    clear hn hsp hlo hc
    go_enter_defers Tryz.func25, Tryz.ntmps25
    go_wp2_with fail
    go_loopw [14] (fun t wr => ∃ k : Nat, k ≤ n ∧ t = .int .i64 k ∧ Hid (∃ B1 X1 nS1 nW1 ch, BdAt wr X1 R nS1 nW1 B1 ∧ Fr X w wr X1 ∧ Fol V L c k B B1 ch ∧ nS1 ≤ nS + k ∧ nW1 ≤ nW)) (fun t _ => n - (intOf t).toNat)
    case atStart => exact ⟨0, Nat.zero_le _, rfl, HF0.out⟩
    case round =>
      obtain ⟨k, hk, rfl, HJ⟩ := hrel
      clear HF0 c3
      obtain ⟨B1, X1, nS1, nW1, ch, hb1, hF1, hFo, hnS1, hnW1⟩ := HJ.out
      by_cases hlt : k < n
      · have hkc : k < c.length := by have := HN.out; omega
        obtain ⟨b, off, hqe, hcell⟩ := HA.out (by omega)
        have x0 := hF1.cell (hcell k hkc) (show ¬ X (⟨b, off + k, none⟩ : Addr).block from HQ.out (by omega) ⟨b, off, none⟩ hqe)
        have hnum := HX.out c[k] (List.getElem_mem hkc)
        have hsm : Small c[k] := hnum.small hV
        have hsm1 := hsm.1
        have hsm2 := hsm.2
        have hlti : (k : Int) < (n : Int) := by omega
        have HBK := hide (backB wr X1 R nS1 nW1 B1 hb1 V L ch hV (.inl ⟨hFo.inv, hFo.ch0⟩) (fun e _ => hFo.sp0 e))
        obtain ⟨S, W, vc, vs, wk, cg, cc, wv, hM1⟩ := hb1
        have HSO := hide (isSo_any R S nS1 B1.st c[k] hsm wr hM1.c5 hM1.so)
        have HIN := hide (isNot_any R S nS1 B1.st c[k] hsm wr hM1.c5 hM1.so)
        have hspl := hFo.inv.wf.spLen hV
        have hlv := hFo.lv
        have hlv0 := hFo.inv.le
        have HF1 := hide hF1
        have HFO := hide hFo
        have HN1 := hide (And.intro hnS1 hnW1)
        have HM1 := hide hM1
        have HCK : Hid (∀ x, c[k] = x → Num V x) := fun x e => e ▸ hnum
        have HSK : Hid (-c[k] ∈ B1.st → Fol V L c (k + 1) B B1 ch) := fun e => hFo.skip hkc e
        have HCH : Hid (c[k] ∉ B1.st → -c[k] ∉ B1.st → Fol V L c (k + 1) B (B1.choose (-c[k])) (fun x => ch x ∨ x = -c[k])) := fun e1 e2 => hFo.choose hkc hnum e1 e2
        have HSS : Hid (c[k] ∈ B1.st → Confl L (negs c)) := fun e => hFo.so HLO.out hkc e
        have HCL := hide hFo.cl
        subst hqe
        clear hcell hnum hF1 hFo hM1 HJ hnS1 hnW1
        generalize c[k] = x at *
        clear hkc
        by_cases hso : x ∈ B1.st
        · have hd : decide (x ∈ B1.st) = true := decide_eq_true hso
          rw [hd] at HSO
          have HCO := hide (HSS.out hso)
          clear hd hso HSK HCH HSS HIN
          go_wp2_with (go_at_call 35; refine HSO.out.mono ?_; rintro e w' ⟨rfl, hw'⟩; obtain rfl : wr = w' := hw'.symm)
          refine leaves_cons (f := 34) (args := #[.pointer (some ⟨R, 0, none⟩), .int .i64 0]) (by simp) (by simp [go_sem]) ?_
          refine (HBK.out.2 .returning).mono ?_
          rintro e u' w3 ⟨rfl, v, rfl, B3, hb3, hF3, hI3, hl3, hs3, hc3⟩
          exact ⟨_, results_tmp rfl _ _ _, true, B3, X1, nS1, nW1, rfl, ⟨fun _ => HCO.out, fun _ => rfl⟩, hb3, HF1.out.trans hF3, hI3, hl3, hs3, hc3.trans HCL.out, by have := HN1.out; omega, by have := HN1.out; omega⟩
        · have hd : decide (x ∈ B1.st) = false := decide_eq_false hso
          rw [hd] at HSO
          by_cases hno : -x ∈ B1.st
          · have hd2 : decide (-x ∈ B1.st) = true := decide_eq_true hno
            rw [hd2] at HIN
            have HFK := hide (HSK.out hno)
            clear hd hso hd2 hno HSK HCH HSS
            go_wp2_with (first | (go_at_call 35; refine HSO.out.mono ?_; rintro e w' ⟨rfl, hw'⟩; obtain rfl : wr = w' := hw'.symm) | (go_at_call 36; refine HIN.out.mono ?_; rintro e w' ⟨rfl, hw'⟩; obtain rfl : wr = w' := hw'.symm))
            go_roundw
            case rel => exact ⟨k + 1, by omega, by go_num, B1, X1, nS1, nW1, ch, ⟨_, _, _, _, _, _, _, _, HM1.out⟩, HF1.out, HFK.out, by have := HN1.out; omega, HN1.out.2⟩
            case measure => simp [intOf]; omega
          · have hd2 : decide (-x ∈ B1.st) = false := decide_eq_false hno
            rw [hd2] at HIN
            have HFK := hide (HCH.out hso hno)
            have HCA := hide (choose_any wr X1 R S W nS1 nW1 vc vs wk cg cc wv B1 HM1.out (-x) hsm.neg hno (by omega) (by have := HN1.out; omega) ⟨hlv0, by omega⟩)
            clear hd hso hd2 hno HSK HCH HSS
            go_wp2_with (first | (go_at_call 35; refine HSO.out.mono ?_; rintro e w' ⟨rfl, hw'⟩; obtain rfl : wr = w' := hw'.symm) | (go_at_call 36; refine HIN.out.mono ?_; rintro e w' ⟨rfl, hw'⟩; obtain rfl : wr = w' := hw'.symm) | (go_at_call 37; refine HCA.out.mono ?_; rintro e w2 ⟨rfl, X2, vs2, wk2, hM2, hF2⟩))
            have HM2 := hide hM2
            have HF2 := hide (HF1.out.trans hF2)
            clear hM2 hF2
            go_wp2_with fail
            go_roundw
            case rel => exact ⟨k + 1, by omega, by go_num, _, X2, nS1 + 1, nW1, _, ⟨_, _, _, _, _, _, _, _, HM2.out⟩, HF2.out, HFK.out, by have := HN1.out; omega, HN1.out.2⟩
            case measure => simp [intOf]; omega
      · have hlti : ¬ (k : Int) < (n : Int) := by omega
        have HSP := hide (spread_any wr X1 R nS1 nW1 B1 hb1 V L ch hFo.inv hV (by rw [hFo.cl]; exact hcl) (by omega) (by omega))
        have HF1 := hide hF1
        have HFO := hide hFo
        have HN1 := hide (And.intro hnS1 hnW1)
        have hsl := hFo.inv.wf.spLen hV
        have HSL := hide hsl
        clear hb1 hF1 hFo HJ hnS1 hnW1 hsl
        go_wp2_with fail
        refine HSP.out.mono ?_
        rintro e w2 ⟨f, B2, X2, nS2, nW2, rfl, hb2, hF2, hnS2, hnW2, hsl2, hsp2⟩
        obtain ⟨s1, s2, s3⟩ := HFO.out.spr (by have := HN.out; omega) HLO.out hsp2
        have HBK := hide (backB w2 X2 R nS2 nW2 B2 hb2 V L ch hV s2 s3)
        have HS1 := hide s1
        have HF2 := hide (HF1.out.trans hF2)
        have HE2 : Hid (B2.cl.length = B.cl.length ∧ nS2 ≤ nS + 1000000 ∧ nW2 ≤ nW + 320100000000) := by
          have := HN1.out
          refine ⟨hsp2.cl.trans HFO.out.cl, by omega, by omega⟩
        clear hb2 hF2 hnS2 hnW2 hsl2 hsp2 s1 s2 s3 HSP
        by_cases hf : f = -1
        · subst hf
          go_wp2_with fail
          refine leaves_cons (f := 34) (args := #[.pointer (some ⟨R, 0, none⟩), .int .i64 0]) (by simp) (by simp [go_sem]) ?_
          refine (HBK.out.2 .returning).mono ?_
          rintro e u' w3 ⟨rfl, v, rfl, B3, hb3, hF3, hI3, hl3, hs3, hc3⟩
          exact ⟨_, results_tmp rfl _ _ _, false, B3, X2, nS2, nW2, rfl, ⟨(fun e => by cases e), fun e => absurd rfl (HS1.out.2 e)⟩, hb3, HF2.out.trans hF3, hI3, hl3, hs3, hc3.trans HE2.out.1, HE2.out.2.1, HE2.out.2.2⟩
        · have hfb : (f == -1) = false := by simpa using hf
          have hfn : (f != -1) = true := by simpa using hf
          go_wp2_with fail
          refine leaves_cons (f := 34) (args := #[.pointer (some ⟨R, 0, none⟩), .int .i64 0]) (by simp) (by simp [go_sem]) ?_
          refine (HBK.out.2 .returning).mono ?_
          rintro e u' w3 ⟨rfl, v, rfl, B3, hb3, hF3, hI3, hl3, hs3, hc3⟩
          exact ⟨_, results_tmp rfl _ _ _, true, B3, X2, nS2, nW2, rfl, ⟨fun _ => HS1.out.1 hf, fun _ => rfl⟩, hb3, HF2.out.trans hF3, hI3, hl3, hs3, hc3.trans HE2.out.1, HE2.out.2.1, HE2.out.2.2⟩
  · rw [hlo] at c3
    have HCO : Hid (Confl L (negs c)) := (HI.out.lst hlo).mono fun n e => e.elim
    clear hlo
    go_enter_defers Tryz.func25, Tryz.ntmps25
    go_wp2_with fail
    exact ⟨_, results_tmp rfl _ _ _, true, B, X, nS, nW, rfl, ⟨fun _ => HCO.out, fun _ => rfl⟩, HB.out, Fr.refl _ _, HI.out, h0, HS.out, rfl, by omega, by omega⟩
end Go.Proofs.YtkinmangilbeeaaGreatDoor.Pf
