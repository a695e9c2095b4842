/- The plain ParseModel. -/
import Derived.Test.YtabnimgpednhjaaGreatDoorTl1M
import Derived.Test.YtabnimgpednhjaaGreatDoorTl2
import Derived.Test.YtabnimgpednhjaaGreatDoorTl3
import Derived.Test.YtabnimgpednhjaaGreatDoorPKM
import Derived.Test.YtabnimgpednhjaaGreatDoorPPM
import Derived.Test.YtabnimgpednhjaaGreatDoorTl0
import Derived.BigQuiet
import Derived.BigRegion
import Derived.Deep.CutBlock
import Derived.Deep.DeepCutAuto
namespace Go.Proofs.YtabnimgpednhjaaGreatDoor
open Go.RowKit Go.Deep
set_option maxRecDepth 100000

set_option maxHeartbeats 32000000 in
theorem parseModel_any (s : ByteArray) (hs : s.size ≤ 10000) (w : World) : Calls Tryz.prog 10 #[.string s] w (ParseOut s w) := by
  have hn : ¬ (10000 : Int) < (s.size : Int) := by omega
  have HS := hide hs
  have hlen := cutAll_len s 10
  have HCU := hide (cut_any s 10 (by omega) (w.alloc (.cells nilM 26)))
  have HPR : Hid (parseR s = match readP Md0 (cutAll s 10) 1 with
      | .error k => (Md0, k, 1)
      | .ok m => if Ev.checkE m.ns m.is m.xs m.bs m.hs = 0 then (m, 0, 0) else (Md0, 0, Ev.checkE m.ns m.is m.xs m.bs m.hs)) := by
    rw [Hid, ← read_pieces _ _ _ _ (Nat.le_refl _), parseR, if_neg (by omega)]
    rfl
  have HNE := hide (cut_ne s 10)
  have HPL := hide (fun (x : ByteArray) (h : x ∈ cutAll s 10) => piece_le h)
  have h1 : 1 ≤ (cutAll s 10).length := List.length_pos_iff.2 HNE.out
  have hle : (cutAll s 10).length ≤ 10001 := by omega
  clear hlen
  generalize cutAll s 10 = ls at *
  clear hs
  obtain ⟨i0, hi, hz0, hz1, hz2⟩ := info_parts info3
  have HI3 := hide (And.intro hi (And.intro hz0 (And.intro hz1 hz2)))
  clear hi hz0 hz1 hz2
  obtain ⟨i47, hi, hz0, hz1, hz2⟩ := info_parts info47
  have HI47 := hide (And.intro hi (And.intro hz0 (And.intro hz1 hz2)))
  clear hi hz0 hz1 hz2
  obtain ⟨i58, hi, hz0, hz1, hz2⟩ := info_parts info58
  have HI58 := hide (And.intro hi (And.intro hz0 (And.intro hz1 hz2)))
  clear hi hz0 hz1 hz2
  go_enter Tryz.func10, Tryz.ntmps10
  go_wp2_with fail
  refine HCU.out.mono ?_
  rintro e w1 ⟨v, rfl, hown, hb1⟩
  obtain ⟨lp, lc, rfl, hst⟩ := strs_of hown
  have hsz1 : w.heap.size + 1 ≤ w1.heap.size := by have := hb1.size; simpa using this
  have HG1 := hide ((hb1.block _ (by simp)).trans (heap_alloc_new w (.cells nilM 26)))
  have HB1 := hide (belowAl (bal (Below.refl w.heap.size w) (.cells nilM 26)) hb1)
  have HST := hide hst
  clear HCU hown hst hb1
  have HPL0 : Hid (Pl ls w1 (w1.alloc (.cells nilM 26)) 0 Md0) := ⟨⟨.slice none 0 0, .slice none 0 0, .slice none 0 0, .slice none 0 0, .slice none 0 0, heap_alloc_new _ _, World.ownsRow_nil _ _ _ _, World.ownsRow_nil _ _ _ _, World.ownsRow_nil _ _ _ _, World.ownsRow_nil _ _ _ _, World.ownsRow_nil _ _ _ _, (fun k h => by cases h), (fun k h => by cases h), Nat.le_refl _⟩, bal (Below.refl _ _) _, by rw [List.drop_zero], ⟨Nat.le_refl _, Nat.le_refl _, Nat.le_refl _, Nat.le_refl _, Nat.le_refl _⟩⟩
  have hls : wrap64 ((ls.length : Int) - 1) = (ls.length : Int) - 1 := by unfold wrap64; omega
  go_wp2_with fail
  go_loopw [7, 8] (fun so i wr => ∃ (k : Nat) (m : Md), so = .int .i64 m.last ∧ i = .int .i64 k ∧ k + 1 ≤ ls.length ∧ Hid (Pl ls w1 wr k m)) (fun _ i _ => ls.length - (intOf i).toNat)
  case atStart => exact ⟨0, Md0, rfl, rfl, by omega, HPL0⟩
  case round =>
    clear HPL0
    obtain ⟨k, m, rfl, rfl, hk, HL⟩ := hrel
    have hszr := HL.out.bel.size
    have hlast := hide (show True from trivial)
    by_cases hlt : k + 1 < ls.length
    · have hki : (k : Int) < (ls.length : Int) - 1 := by omega
      have hki2 : (k : Int) < (ls.length : Int) := by omega
      obtain ⟨lb, lo, hlp, hcl⟩ := (strs_below HST.out HL.out.bel).cell (by omega)
      subst hlp
      have hck := hcl k (by omega)
      have hsz := HPL.out ls[k] (List.getElem_mem (by omega))
      have HCU := hide (cut_any ls[k] 32 (by have := HS.out; omega) wr)
      have hwl := cutAll_len ls[k] 32
      have HWN := hide (cut_ne ls[k] 32)
      have HER : Hid (m.line (cutAll ls[k] 32) = none → parseR s = (Md0, k + 1, 1)) := fun h => by
        rw [HPR.out, ← HL.out.read, drop_at (by omega), readP_none (drop_ne hlt) h]
      have HGO : Hid (∀ (m' : Md) (w' : World), m.line (cutAll ls[k] 32) = some m' → HoldsP w' w1.heap.size m' → Below w1.heap.size w1 w' → Pl ls w1 w' (k + 1) m') := fun m' w' h h2 h3 =>
        ⟨h2, h3, by rw [← readP_some (drop_ne hlt) h, ← drop_at (by omega), HL.out.read], Md.line_within h HL.out.within⟩
      have hws : (cutAll ls[k] 32).length ≤ 10001 := by have := HS.out; omega
      have HFW := hide (HL.out.within.few (by omega))
      clear hcl hwl
      generalize ls[k] = line at *
      generalize cutAll line 32 = ws at *
      obtain ⟨a, r, hWS⟩ : ∃ a r, ws = a :: r := by
        cases ws with
        | nil => exact absurd rfl HWN.out
        | cons a r => exact ⟨a, r, rfl⟩
      have hwp : 1 ≤ ws.length := by rw [hWS]; simp
      have HW0 : Hid (ws[0]? = some a) := by rw [hWS]; rfl
      have HWS := hide hWS
      clear HWN hWS
      go_upto_block 1 with fail
      go_cut [7] (fun so wx => ∃ m' : Md, so = .int .i64 m'.last ∧ Hid (Pl ls w1 wx (k + 1) m'))
      case rest =>
        obtain ⟨m', rfl, HPL2⟩ := hcut
        clear HCU HGO HER HW0 HWS HFW HL hck
        go_wp2_with fail
        go_roundw
        case rel => first | exact ⟨k + 1, m', rfl, by go_num, by omega, HPL2⟩ | ((repeat apply Exists.intro); exact ⟨⟨k + 1, m', rfl, by go_num, by omega, HPL2⟩, rfl⟩) | skip
        case measure => simp [intOf]; omega
      go_wp2_with fail
      refine HCU.out.mono ?_
      rintro e w5 ⟨v5, rfl, hown5, hb5⟩
      obtain ⟨wp, wc, rfl, hst5⟩ := strs_of hown5
      have HST5 := hide hst5
      have HH5 := hide (HL.out.holds.later hb5)
      have HB5 := hide (belowAl HL.out.bel hb5)
      have hsz5 : w1.heap.size ≤ w5.heap.size := HB5.out.size
      clear hown5 hst5 hb5 HCU hck HL
      go_upto_block 2 with fail
      refine pK (by kernel_rfl) HWS hwp hws HST5 (hide ?_)
      intros
      rename_i wc hcut
      dsimp only
      go_step
      obtain ⟨rfl, HB6⟩ := hcut
      have HST6 := hide (strs_below HST5.out HB6.out)
      have HH6 := hide (HH5.out.later HB6.out)
      have HBW6 := hide (belowAl HB5.out HB6.out)
      have hsz6 : w1.heap.size ≤ wc.heap.size := HBW6.out.size
      generalize wc = w6 at *
      clear HST5 HH5 HB5 HB6 hsz5
      obtain ⟨D, hD⟩ : ∃ D : Nat, D = if sortN a = 0 then 2 else 1 := ⟨_, rfl⟩
      have hD12 : D = 1 ∨ D = 2 := by rw [hD]; split <;> omega
      have HD := hide hD
      clear hD
      go_upto_block 4 with fail
      refine pV (by kernel_rfl) hwp hws HW0 HD hD12 HST6 (hide ?_)
      intros
      rename_i wc hcut
      dsimp only
      go_step
      obtain ⟨rfl, HO, HB⟩ := hcut
      generalize wc = w7 at *
      obtain ⟨vp, vc, rfl, hvi⟩ := Ev.owns_ints HO.out
      have HST7 := hide (strs_below HST6.out HB.out)
      have HH7 := hide (HH6.out.later HB.out)
      have HBW7 := hide (belowAl HBW6.out HB.out)
      have hsz7 : w1.heap.size ≤ w7.heap.size := HBW7.out.size
      have HVI := hide hvi
      have hvl := valsN_len D ws ws.length
      have g7 := (HBW7.out.block _ (by omega)).trans HG1.out
      have HG7 := hide g7
      clear HST6 HH6 HBW6 HB HO hvi hsz6 g7
      obtain ⟨sb, so, hsp, hsc⟩ := HST7.out.cell (by omega)
      subst hsp
      have hc0 := hsc 0 (by omega)
      have e0 : ws[0] = a := by have := HW0.out; rw [List.getElem?_eq_getElem (by omega)] at this; exact Option.some.inj this
      rw [e0, Nat.add_zero] at hc0
      clear hsc e0
      have h0i : (0 : Int) < (ws.length : Int) := by omega
      go_upto_block 6 with fail
      refine pP (by kernel_rfl) (hide ?_)
      intros
      rename_i wc hcut
      dsimp only
      obtain ⟨rfl, hwc⟩ := hcut
      obtain rfl : w7 = wc := hwc.symm
      have HIF := hide (show True from trivial)
      obtain ⟨v0, v1, v2, v3, v4, hM⟩ := HH7.out
      have HM := hide hM
      obtain ⟨a0, a1, a2, a3, a4, c0, c1, c2, c3, c4, rfl, rfl, rfl, rfl, rfl, -⟩ := hM.parts
      clear hM HH7
      have hs5 : sortN a = 0 ∨ sortN a = 1 ∨ sortN a = 2 ∨ sortN a = 3 ∨ sortN a = 4 := by have := sortN_bd a; omega
      rcases hs5 with hs0 | hs0 | hs0 | hs0 | hs0
      · go_step
        refine tl0 (by kernel_rfl) hle hk HB1 hsz1 HFW HER HGO hws HWS HD HBW7 hsz7 HVI hvl HG7 HST7 hc0 h0i HM hs0 (hide ?_)
        intros
        rename_i mm wx HPL2
        dsimp only
        go_step
        go_meet
        exact ⟨_, rfl, HPL2⟩
      · go_step
        refine tl1 (by kernel_rfl) hle hk HB1 hsz1 HFW HER HGO hws HWS HD HBW7 hsz7 HVI hvl HG7 HST7 hc0 h0i HM hs0 (hide ?_)
        intros
        rename_i mm wx HPL2
        dsimp only
        go_step
        go_meet
        exact ⟨_, rfl, HPL2⟩
      · go_step
        refine tl2 (by kernel_rfl) hle hk HB1 hsz1 HFW HER HGO hws HWS HD HBW7 hsz7 HVI hvl HG7 HST7 hc0 h0i HM hs0 (hide ?_)
        intros
        rename_i mm wx HPL2
        dsimp only
        go_step
        go_meet
        exact ⟨_, rfl, HPL2⟩
      · go_step
        refine tl3 (by kernel_rfl) hle hk HB1 hsz1 HFW HER HGO hws HWS HD HBW7 hsz7 HVI hvl HG7 HST7 hc0 h0i HM hs0 (hide ?_)
        intros
        rename_i mm wx HPL2
        dsimp only
        go_step
        go_meet
        exact ⟨_, rfl, HPL2⟩
      · go_step
        refine tl4 (by kernel_rfl) hle hk HB1 hsz1 HFW HER HGO hws HWS HD HBW7 hsz7 HVI hvl HG7 HST7 hc0 h0i HM hs0 (hide ?_)
        intros
        rename_i mm wx HPL2
        dsimp only
        go_step
        go_meet
        exact ⟨_, rfl, HPL2⟩
    · skip
      have hkk : k + 1 = ls.length := by omega
      have hki : ¬ (k : Int) < (k : Int) := by omega
      have hls2 : wrap64 ((ls.length : Int) - 1) = (k : Int) := by rw [hls]; omega
      have hk0 : (0 : Int) ≤ (k : Int) := by omega
      have hkl : (k : Int) < (ls.length : Int) := by omega
      obtain ⟨lb, lo, hlp, hcl⟩ := (strs_below HST.out HL.out.bel).cell (by omega)
      subst hlp
      have hck := hcl k (by omega)
      have hck1 : wr.cell? ⟨lb, lo + (ls.length - 1), none⟩ = some (.string ls[k]) := by rw [show ls.length - 1 = k by omega]; exact hck
      have hck2 : wr.cell? ⟨lb, lo + ((ls.length : Int) - 1).toNat, none⟩ = some (.string ls[k]) := by rw [show ((ls.length : Int) - 1).toNat = k by omega]; exact hck
      have HRD : Hid (readP m [ls[k]] (k + 1) = readP Md0 ls 1) := by
        have h := HL.out.read
        rw [drop_at (by omega), List.drop_eq_nil_of_le (by omega)] at h
        exact h
      generalize ls[k] = z at *
      have HBR := hide (belowAl HB1.out HL.out.bel)
      have g7 := (HL.out.bel.block _ (by omega)).trans HG1.out
      clear hcl hlt hls2
      have hki2 : ¬ (k : Int) < (ls.length : Int) - 1 := by omega
      have hl0 : (0 : Int) ≤ (ls.length : Int) - 1 := by omega
      have hl1 : (ls.length : Int) - 1 < (ls.length : Int) := by omega
      by_cases h0 : z.size = 0
      · obtain rfl := ba_nil h0
        obtain ⟨v0, v1, v2, v3, v4, hM⟩ := HL.out.holds
        obtain ⟨a0, a1, a2, a3, a4, c0, c1, c2, c3, c4, rfl, rfl, rfl, rfl, rfl, nn3, nn4, p0, p1, p2, p3, p4⟩ := hM.parts
        have hfew := HL.out.within.few (by omega)
        obtain ⟨f0, f1, f2, f3, f4⟩ := hfew
        have HPR2 : Hid (parseR s = if Ev.checkE m.ns m.is m.xs m.bs m.hs = 0 then (m, 0, 0) else (Md0, 0, Ev.checkE m.ns m.is m.xs m.bs m.hs)) := by
          rw [Hid, HPR.out, ← HRD.out, readP, if_pos (show (⟨#[]⟩ : ByteArray).size = 0 from rfl)]
        have HCK := hide (Ev.checkModelR_any a0 a1 a2 a3 a4 c0 c1 c2 c3 c4 m.ns m.is m.xs m.bs m.hs (by unfold maxLen; omega) (by omega) (by omega) (by unfold maxLen; omega) (by unfold maxLen; omega) nn3 nn4 wr p0 p1 p2 p3 p4)
        unfold Ev.Mv.val at HCK
        have r0 : wr.cell? ⟨w1.heap.size, 0, none⟩ = some (.slice a0 m.ns.length c0) := by rw [Lib.cell_of_heap hM.c]; rfl
        have r1 : wr.cell? ⟨w1.heap.size, 1, none⟩ = some (.slice a1 m.is.length c1) := by rw [Lib.cell_of_heap hM.c]; rfl
        have r2 : wr.cell? ⟨w1.heap.size, 2, none⟩ = some (.slice a2 m.xs.length c2) := by rw [Lib.cell_of_heap hM.c]; rfl
        have r3 : wr.cell? ⟨w1.heap.size, 3, none⟩ = some (.slice a3 m.bs.length c3) := by rw [Lib.cell_of_heap hM.c]; rfl
        have r4 : wr.cell? ⟨w1.heap.size, 4, none⟩ = some (.slice a4 m.hs.length c4) := by rw [Lib.cell_of_heap hM.c]; rfl
        have HMM := hide hM
        have HG := hide g7
        generalize Ev.checkE m.ns m.is m.xs m.bs m.hs = ce at *
        clear hM p0 p1 p2 p3 p4 HL HRD HPR HST nn3 nn4 g7 h0
        go_wp2_with fail
        refine HCK.out.mono ?_
        rintro e w2 ⟨rfl, hb2⟩
        have HB2 := hide (belowAl HBR.out hb2)
        have HM2 := hide (HMM.out.later hb2)
        have g2 := (hb2.block _ (by omega)).trans HG.out
        replace r0 := cell_later hb2 r0
        replace r1 := cell_later hb2 r1
        replace r2 := cell_later hb2 r2
        replace r3 := cell_later hb2 r3
        replace r4 := cell_later hb2 r4
        clear hb2 HMM HBR HCK HG
        have d0 : w2.cell? ⟨w.heap.size, 0, none⟩ = some (.slice none 0 0) := by rw [Lib.cell_of_heap g2]; rfl
        have z0 : w2.frozen? ⟨w.heap.size, 0, none⟩ = false := Lib.frozen_of_heap g2 0
        have d1 : w2.cell? ⟨w.heap.size, 1, none⟩ = some (.slice none 0 0) := by rw [Lib.cell_of_heap g2]; rfl
        have z1 : w2.frozen? ⟨w.heap.size, 1, none⟩ = false := Lib.frozen_of_heap g2 1
        have d2 : w2.cell? ⟨w.heap.size, 2, none⟩ = some (.slice none 0 0) := by rw [Lib.cell_of_heap g2]; rfl
        have z2 : w2.frozen? ⟨w.heap.size, 2, none⟩ = false := Lib.frozen_of_heap g2 2
        have d3 : w2.cell? ⟨w.heap.size, 3, none⟩ = some (.slice none 0 0) := by rw [Lib.cell_of_heap g2]; rfl
        have z3 : w2.frozen? ⟨w.heap.size, 3, none⟩ = false := Lib.frozen_of_heap g2 3
        have d4 : w2.cell? ⟨w.heap.size, 4, none⟩ = some (.slice none 0 0) := by rw [Lib.cell_of_heap g2]; rfl
        have z4 : w2.frozen? ⟨w.heap.size, 4, none⟩ = false := Lib.frozen_of_heap g2 4
        clear g2
        by_cases hce : ce = 0
        · subst hce
          have HPR3 : Hid (parseR s = (m, 0, 0)) := by rw [Hid, HPR2.out, if_pos rfl]
          clear HPR2
          go_wp2_with fail
          refine bodyPost_ret (v := .tuple #[.agg #[.slice a0 m.ns.length c0, .slice a1 m.is.length c1, .slice a2 m.xs.length c2, .slice a3 m.bs.length c3, .slice a4 m.hs.length c4], .int .i64 0, .int .i64 0]) (by simp [results, Tryz.results10, go_sem, d0, d1, d2, d3, d4]) rfl ⟨_, by rw [HPR3.out]; rfl, ?_, (((((HB2.out.setCell (by simp) _).setCell (by simp) _).setCell (by simp) _).setCell (by simp) _).setCell (by simp) _)⟩
          rw [HPR3.out]
          exact ((((((HM2.out.other (by omega) _ _)).other (by omega) _ _).other (by omega) _ _).other (by omega) _ _).other (by omega) _ _).model
        · have hne : (ce != 0) = true := by simpa using hce
          have HPR3 : Hid (parseR s = (Md0, 0, ce)) := by rw [Hid, HPR2.out, if_neg hce]
          clear HPR2
          go_wp2_with fail
          refine bodyPost_ret (v := .tuple #[.agg nilM, .int .i64 0, .int .i64 ce]) (by simp [results, Tryz.results10, go_sem, d0, d1, d2, d3, d4]) rfl ⟨_, by rw [HPR3.out]; rfl, ?_, (((((HB2.out.setCell (by simp) _).setCell (by simp) _).setCell (by simp) _).setCell (by simp) _).setCell (by simp) _)⟩
          rw [HPR3.out]
          exact noModel _
      · have hq : (z.toList == []) = false := by
          rw [beq_eq_false_iff_ne]
          intro e
          rw [ByteArray.toList_eq] at e
          apply h0
          rw [Lib.size_eq, e]
          rfl
        have hd : ¬ z.toList = [] := by simpa using hq
        have hq2 : (z.toList != []) = true := by simpa using hd
        have HP : Hid (parseR s = (Md0, k + 1, 1)) := by rw [Hid, HPR.out, ← HRD.out, readP, if_neg h0]
        have hlk : (ls.length : Int) = (k : Int) + 1 := by omega
        have HLK := hide hlk
        have d0 : wr.cell? ⟨w.heap.size, 0, none⟩ = some (.slice none 0 0) := by rw [Lib.cell_of_heap g7]; rfl
        have z0 : wr.frozen? ⟨w.heap.size, 0, none⟩ = false := Lib.frozen_of_heap g7 0
        have d1 : wr.cell? ⟨w.heap.size, 1, none⟩ = some (.slice none 0 0) := by rw [Lib.cell_of_heap g7]; rfl
        have z1 : wr.frozen? ⟨w.heap.size, 1, none⟩ = false := Lib.frozen_of_heap g7 1
        have d2 : wr.cell? ⟨w.heap.size, 2, none⟩ = some (.slice none 0 0) := by rw [Lib.cell_of_heap g7]; rfl
        have z2 : wr.frozen? ⟨w.heap.size, 2, none⟩ = false := Lib.frozen_of_heap g7 2
        have d3 : wr.cell? ⟨w.heap.size, 3, none⟩ = some (.slice none 0 0) := by rw [Lib.cell_of_heap g7]; rfl
        have z3 : wr.frozen? ⟨w.heap.size, 3, none⟩ = false := Lib.frozen_of_heap g7 3
        have d4 : wr.cell? ⟨w.heap.size, 4, none⟩ = some (.slice none 0 0) := by rw [Lib.cell_of_heap g7]; rfl
        have z4 : wr.frozen? ⟨w.heap.size, 4, none⟩ = false := Lib.frozen_of_heap g7 4
        clear g7 HPR HRD HL HST h0 hlk
        go_wp2_with fail
        refine bodyPost_ret (v := .tuple #[.agg nilM, .int .i64 (ls.length : Int), .int .i64 1]) (by simp [results, Tryz.results10, go_sem, d0, d1, d2, d3, d4]) rfl ⟨_, by rw [HP.out, HLK.out]; rfl, ?_, (((((HBR.out.setCell (by simp) _).setCell (by simp) _).setCell (by simp) _).setCell (by simp) _).setCell (by simp) _)⟩
        rw [HP.out]
        exact noModel _
end Go.Proofs.YtabnimgpednhjaaGreatDoor
