/- trace.walk, for any model, trace and whoever looks: the walk. -/
import Derived.Test.YtfobcnhibhbbaaaGreatDoorKaM
import Derived.Deep.RegionHeld3
namespace Go.Proofs.YtfobcnhibhbbaaaGreatDoor.Ev.Xp
open Go.RowKit
set_option maxRecDepth 100000

set_option maxHeartbeats 8000000 in
theorem walk_any (fn : FuncId) (caps : Array Value) (hen : ∀ args w, (callFunc fn args).run Tryz.prog w = .ok (.enter fn args) w) (a0 a1 a2 a3 a4 : Option Addr) (c0 c1 c2 c3 c4 : Nat) (ns : List Nd) (is xs : List (Int × Int)) (bs hs : List Int) (hln : ns.length ≤ 2932031007402) (hli : is.length ≤ 8796093022208) (hlx : xs.length ≤ 8796093022208) (hlb : bs.length ≤ maxLen) (hlh : hs.length ≤ maxLen)
    (st : List Int) (sp rp : Option Addr) (sc rc : Nat) (L : List (List Int)) (hlr : ∀ r ∈ L, r.length ≤ maxLen) (J : Nat → World → Prop) (w0 w : World) (hMd : MdAt ⟨a0, c0, a1, is.length, c1, a2, xs.length, c2, a3, bs.length, c3, a4, hs.length, c4⟩ ns is xs bs hs w0) (hS0 : SL w0 (.slice sp st.length sc) st) (hR0 : RowsS w0 rp L) (hb0 : Below w0.heap.size w0 w) (hJ : J 0 w)
    (hL : LooksG fn caps w0 w L.length (stN ns xs L (beginI ns is 0 st)) (fun k => (mvOf ns xs bs hs (stN ns xs L (beginI ns is 0 st) k) (L.getD k [])).1) (fun k => (mvOf ns xs bs hs (stN ns xs L (beginI ns is 0 st) k) (L.getD k [])).2.1) J) :
    Calls Tryz.prog 16 #[Mv.val ⟨a0, c0, a1, is.length, c1, a2, xs.length, c2, a3, bs.length, c3, a4, hs.length, c4⟩ ns.length, .agg #[.slice sp st.length sc, .slice rp L.length rc], .func (.func fn) #[] caps] w fun e w' => e = .returned (.int .i64 (wkE ns is xs bs hs st L)) ∧ (wkE ns is xs bs hs st L = 0 → J L.length w') ∧ Below w0.heap.size w0 w' := by
  have hlm : ns.length ≤ maxLen := by unfold maxLen; omega
  have hbX : Below w.heap.size w ((w.alloc (.cells (Mv.cells ⟨a0, c0, a1, is.length, c1, a2, xs.length, c2, a3, bs.length, c3, a4, hs.length, c4⟩ ns.length) 26)).alloc (.cells #[.slice sp st.length sc, .slice rp L.length rc] 29)) := bal (bal (Below.refl _ _) _) _
  have HBX : Hid (BoxW ((w.alloc (.cells (Mv.cells ⟨a0, c0, a1, is.length, c1, a2, xs.length, c2, a3, bs.length, c3, a4, hs.length, c4⟩ ns.length) 26)).alloc (.cells #[.slice sp st.length sc, .slice rp L.length rc] 29)) w.heap.size #[.slice a0 ns.length c0, .slice a1 is.length c1, .slice a2 xs.length c2, .slice a3 bs.length c3, .slice a4 hs.length c4] #[.slice sp st.length sc, .slice rp L.length rc]) := by
    refine ⟨((bal (Below.refl _ (w.alloc (.cells (Mv.cells ⟨a0, c0, a1, is.length, c1, a2, xs.length, c2, a3, bs.length, c3, a4, hs.length, c4⟩ ns.length) 26))) _).block _ (by simp)).trans (MapKept.heap_alloc w _).1, ?_⟩
    have := (MapKept.heap_alloc (w.alloc (.cells (Mv.cells ⟨a0, c0, a1, is.length, c1, a2, xs.length, c2, a3, bs.length, c3, a4, hs.length, c4⟩ ns.length) 26)) (.cells #[.slice sp st.length sc, .slice rp L.length rc] 29)).1
    rw [World.size_alloc] at this
    exact this
  have HL := hide hL
  have HJ0 := hide (hL.st 0 w _ hJ hbX)
  have HB1 := hide (bthen hb0 hbX)
  have HMF := hide (fun (W : World) (hb : Below w0.heap.size w0 W) => hMd.later hb)
  have HRF := hide (fun (W : World) (hb : Below w0.heap.size w0 W) => hR0.later hb)
  have HSF := hide (fun (W : World) (hb : Below w0.heap.size w0 W) => hS0.later hb)
  have HLR := hide hlr
  have HEN := hide hen
  have hsl : st.length ≤ maxLen := by obtain ⟨p, cap, e, _, h1, h2⟩ := hS0; exact Nat.le_trans h1 h2
  have HBG := hide (fun (W : World) (hb : Below w0.heap.size w0 W) => begin_new a0 a1 a2 a3 a4 c0 c1 c2 c3 c4 ns is xs bs hs hln hli hlx hlb hlh st hsl (.slice sp st.length sc) W (HMF.out W hb).nd (HMF.out W hb).pi (HMF.out W hb).px (HMF.out W hb).ib (HMF.out W hb).ih (HSF.out W hb))
  clear hL hJ hbX hMd hS0 hR0 hlr hen
  by_cases hc : L.length = 0 ∨ 41 < L.length
  · have HE : Hid (wkE ns is xs bs hs st L = 2) := by unfold Hid wkE; rw [if_pos hc]
    by_cases hz : L.length = 0
    · have hzb : ((L.length : Int) == 0) = true := by rw [hz]; rfl
      clear hc hz
      go_enter Tryz.func16, Tryz.ntmps16
      go_wp2_with fail
      go_ret
      exact ⟨(by rw [HE.out]; rfl), (fun h => absurd (HE.out.symm.trans h) (by decide)), HB1.out⟩
    · have hzb : ((L.length : Int) == 0) = false := beq_eq_false_iff_ne.2 (by omega)
      have hgt : (41 : Int) < (L.length : Int) := by omega
      clear hc
      go_enter Tryz.func16, Tryz.ntmps16
      go_wp2_with fail
      go_ret
      exact ⟨(by rw [HE.out]; rfl), (fun h => absurd (HE.out.symm.trans h) (by decide)), HB1.out⟩
  · have h0 : 0 < L.length := by omega
    have h41 : ¬ (41 : Int) < (L.length : Int) := by omega
    have hzb : ((L.length : Int) == 0) = false := beq_eq_false_iff_ne.2 (by omega)
    have HN41 : Hid (L.length ≤ 41) := by unfold Hid; omega
    obtain ⟨be, hbe⟩ : ∃ be, beginE ns is xs bs hs st = be := ⟨_, rfl⟩
    have HWE : Hid (wkE ns is xs bs hs st L = if be ≠ 0 then be else firstN (rdE ns is xs bs hs L (beginI ns is 0 st)) L.length) := by unfold Hid wkE; rw [if_neg hc, hbe]
    rw [hbe] at HBG
    have HBE := hide hbe
    clear hc hbe
    go_enter Tryz.func16, Tryz.ntmps16
    go_upto_region 3 with fail
    generalize (w.alloc (.cells (Mv.cells ⟨a0, c0, a1, is.length, c1, a2, xs.length, c2, a3, bs.length, c3, a4, hs.length, c4⟩ ns.length) 26)).alloc (.cells #[.slice sp st.length sc, .slice rp L.length rc] 29) = wa at *
    have m0 : wa.cell? ⟨w.heap.size, 0, none⟩ = some (.slice a0 ns.length c0) := by rw [Lib.cell_of_heap HBX.out.m]; rfl
    have m1 : wa.cell? ⟨w.heap.size, 1, none⟩ = some (.slice a1 is.length c1) := by rw [Lib.cell_of_heap HBX.out.m]; rfl
    have m2 : wa.cell? ⟨w.heap.size, 2, none⟩ = some (.slice a2 xs.length c2) := by rw [Lib.cell_of_heap HBX.out.m]; rfl
    have m3 : wa.cell? ⟨w.heap.size, 3, none⟩ = some (.slice a3 bs.length c3) := by rw [Lib.cell_of_heap HBX.out.m]; rfl
    have m4 : wa.cell? ⟨w.heap.size, 4, none⟩ = some (.slice a4 hs.length c4) := by rw [Lib.cell_of_heap HBX.out.m]; rfl
    have m5 : wa.cell? ⟨w.heap.size + 1, 1, none⟩ = some (.slice rp L.length rc) := by rw [Lib.cell_of_heap HBX.out.t]; rfl
    have m6 : wa.cell? ⟨w.heap.size + 1, 0, none⟩ = some (.slice sp st.length sc) := by rw [Lib.cell_of_heap HBX.out.t]; rfl
    have HSZ : Hid (w.heap.size + 1 < wa.heap.size) := (Array.getElem?_eq_some_iff.1 HBX.out.t).1
    go_wp2_with fail
    refine (HBG.out wa HB1.out).mono ?_
    rintro e w1 ⟨p1, k1, l1, rfl, hl1, hN1, hb1⟩
    have HX1 := hide (HBX.out.call hb1)
    have HJ1 := hide (HL.out.st 0 wa w1 HJ0.out hb1)
    have HB2 := hide (bthen HB1.out hb1)
    have HSZ1 : Hid (w.heap.size + 1 < w1.heap.size) := (Array.getElem?_eq_some_iff.1 HX1.out.t).1
    clear m0 m1 m2 m3 m4 m5 m6 hb1 HBX HJ0 HB1 HBG
    by_cases hb : be = 0
    · subst hb
      have HWE2 : Hid (wkE ns is xs bs hs st L = firstN (rdE ns is xs bs hs L (beginI ns is 0 st)) L.length) := by unfold Hid; rw [HWE.out, if_neg (by simp)]
      have hck : checkE ns is xs bs hs = 0 := by
        have h := HBE.out
        unfold beginE at h
        by_cases h1 : checkE ns is xs bs hs = 0
        · exact h1
        · rw [if_pos h1] at h; exact h
      have hws : wordsE ns 3 st = 0 := by
        have h := HBE.out
        unfold beginE at h
        rw [if_neg (by rw [hck]; simp)] at h
        exact h
      have HS1 : Hid (SL w1 (.slice p1 l1.length k1) (beginI ns is 0 st)) := by rw [← hl1]; exact hN1.sl
      have HWS : Hid (wordsE ns 3 (beginI ns is 0 st) = 0) := by
        unfold Hid beginI
        rw [if_pos rfl]
        exact follow_words (check_zero hck).2.1 (fun p hp => init_zero ((pairs_zero (check_zero hck).2.2.1).1 p hp)) hws (zeros_fit 2)
      have HCK := hide hck
      have hl1' : l1.length = (beginI ns is 0 st).length := by rw [hl1]
      have HL1 := hide hl1'
      generalize beginI ns is 0 st = s0 at *
      have c5 : w1.cell? ⟨w.heap.size + 1, 1, none⟩ = some (.slice rp L.length rc) := by rw [Lib.cell_of_heap HX1.out.t]; rfl
      clear hl1 hN1 HWE hck hws hl1'
      go_wp2_with fail
      clear c5
      obtain ⟨rb, ro, hrp, -⟩ := HRF.out w1 HB2.out h0
      subst hrp
      have HLKF := hide (fun (W : World) (hb : Below w0.heap.size w0 W) (s i : List Int) (v u : Value) (hv : SL W v s) (hu : SL W u i) => lookG a0 a1 a2 a3 a4 c0 c1 c2 c3 c4 ns is xs bs hs hlm hli hlx hlb hlh s i v u W (HMF.out W hb) hv hu)
      have HSTF := hide (fun (W : World) (hb : Below w0.heap.size w0 W) (s i : List Int) (v u : Value) (hv : SL W v s) (hu : SL W u i) => stepG a0 a1 a2 a3 a4 c0 c1 c2 c3 c4 ns is xs bs hs hlm hli hlx hlb hlh s i v u W (HMF.out W hb) hv hu)
      go_loopw [7, 8, 37] (fun sv e i wr => ∃ k : Nat, k ≤ L.length ∧ i = .int .i64 k ∧ e = .int .i64 0 ∧ (∃ ps nl cs, sv = .slice ps nl cs ∧ Hid (SL wr (.slice ps nl cs) (stN ns xs L s0 (k - 1)))) ∧ Hid (∀ j, j < k → rdE ns is xs bs hs L s0 j = 0) ∧ Hid (BoxW wr w.heap.size #[.slice a0 ns.length c0, .slice a1 is.length c1, .slice a2 xs.length c2, .slice a3 bs.length c3, .slice a4 hs.length c4] #[.slice sp st.length sc, .slice (some ⟨rb, ro, none⟩) L.length rc]) ∧ Hid (J k wr) ∧ Hid (Below w0.heap.size w0 wr)) (fun _ _ i _ => L.length - (intOf i).toNat)
      case atStart => exact ⟨0, by omega, rfl, rfl, ⟨p1, l1.length, k1, rfl, HS1⟩, hide (fun j h => absurd h (Nat.not_lt_zero j)), HX1, HJ1, HB2⟩
      case round =>
        clear HS1 HX1 HJ1 HB2 HSZ1
        obtain ⟨k, hk, rfl, rfl, ⟨ps, nl, cs, rfl, HS⟩, HZ, HX, HJ, HBW⟩ := hrel
        have m0 : wr.cell? ⟨w.heap.size, 0, none⟩ = some (.slice a0 ns.length c0) := by rw [Lib.cell_of_heap HX.out.m]; rfl
        have m1 : wr.cell? ⟨w.heap.size, 1, none⟩ = some (.slice a1 is.length c1) := by rw [Lib.cell_of_heap HX.out.m]; rfl
        have m2 : wr.cell? ⟨w.heap.size, 2, none⟩ = some (.slice a2 xs.length c2) := by rw [Lib.cell_of_heap HX.out.m]; rfl
        have m3 : wr.cell? ⟨w.heap.size, 3, none⟩ = some (.slice a3 bs.length c3) := by rw [Lib.cell_of_heap HX.out.m]; rfl
        have m4 : wr.cell? ⟨w.heap.size, 4, none⟩ = some (.slice a4 hs.length c4) := by rw [Lib.cell_of_heap HX.out.m]; rfl
        have m5 : wr.cell? ⟨w.heap.size + 1, 1, none⟩ = some (.slice (some ⟨rb, ro, none⟩) L.length rc) := by rw [Lib.cell_of_heap HX.out.t]; rfl
        by_cases hkl : k = L.length
        · have hge : ¬ (k : Int) < (L.length : Int) := by omega
          have HKL := hide hkl
          clear hkl
          go_wp2
          go_ret
          exact ⟨(by rw [HWE2.out, firstN_zero.2 (fun j hj => HZ.out j (by rw [HKL.out]; exact hj))]; rfl), (fun _ => by rw [← HKL.out]; exact HJ.out), HBW.out⟩
        · cases k with
          | zero =>
            obtain ⟨q0, n0, d0, hr0, hu0⟩ := (HRF.out wr HBW.out).at h0
            rw [Nat.add_zero] at hr0
            have hpos : (0 : Int) < (L.length : Int) := by omega
            obtain ⟨hb, bb, hbb, hlk⟩ := HLKF.out wr HBW.out _ _ _ _ HS.out hu0
            obtain ⟨re, hre0⟩ : ∃ re, readyE ns is xs bs hs (stN ns xs L s0 (0 - 1)) (L.getD 0 []) = re := ⟨_, rfl⟩
            rw [hre0] at hlk hbb
            have HRE := hide hre0
            have HLK := hide hlk
            clear hre0 hlk hu0 hkl
            by_cases hre : re = 0
            · subst hre
              have HBB := hide (hbb rfl)
              clear hbb
              go_wp2_with fail
              refine HLK.out.mono ?_
              rintro e w3 ⟨rfl, hb3⟩
              have HS3 := hide (HS.out.later hb3)
              have HX3 := hide (HX.out.call hb3)
              have HJ3 := hide (HL.out.st 0 wr w3 HJ.out hb3)
              have HB3 := hide (bthen HBW.out hb3)
              have hsz3 : w.heap.size + 1 < w3.heap.size := (Array.getElem?_eq_some_iff.1 HX3.out.t).1
              have hcl := HL.out.cl 0 w3 (.slice ps nl cs) h0 (Nat.le_of_succ_le (Nat.le_of_lt hsz3)) HB3.out HJ3.out HS3.out
              rw [← HBB.out.1, ← HBB.out.2] at hcl
              have HCL := hide hcl
              clear hcl hb3 HLK HX HJ HBW HS m0 m1 m2 m3 m4 m5 hr0
              have hen := HEN.out
              go_wp2_with fail
              refine HCL.out.mono ?_
              rintro e w4 ⟨rfl, hj4, hb4, hk4, hki4⟩
              have HS4 := hide (SL_kept HS3.out hki4)
              have HZ4 : Hid (∀ i, i < 0 + 1 → rdE ns is xs bs hs L s0 i = 0) := fun i hi => by
                rcases Nat.lt_succ_iff_lt_or_eq.1 hi with h | h
                · exact HZ.out i h
                · rw [h]; exact HRE.out
              have HX4 := hide (HX3.out.look hk4)
              have HJ4 := hide hj4
              have HB4 := hide (HB3.out.trans hb4)
              clear hj4 hb4 hk4 hki4 HCL HS3 HX3 HJ3 HB3 hen
              go_wp2
              go_roundw
              case rel => exact ⟨0 + 1, h0, by simp, rfl, ⟨_, _, _, rfl, HS4⟩, HZ4, HX4, HJ4, HB4⟩
              case measure => simp [intOf]; omega
            · have hreb : (re != 0) = true := by simp [hre]
              have HRN := hide hre
              clear hre hbb
              go_wp2_with fail
              refine HLK.out.mono ?_
              rintro e w3 ⟨rfl, hb3⟩
              have HB3 := hide (bthen HBW.out hb3)
              have HF : Hid (wkE ns is xs bs hs st L = re) := by
                unfold Hid
                rw [HWE2.out, firstN_hit (k := 0) h0 HZ.out (by unfold rdE; rw [HRE.out]; exact HRN.out)]
                exact HRE.out
              clear hb3 HLK HX HJ HBW HS m0 m1 m2 m3 m4 m5 hr0
              go_wp2_with fail
              go_ret
              exact ⟨(by rw [HF.out]; rfl), (fun h => absurd (HF.out.symm.trans h) HRN.out), HB3.out⟩
          | succ j =>
            obtain ⟨q0, n0, d0, hrj, hu0⟩ := (HRF.out wr HBW.out).at (i := j) (by omega)
            have HU0 := hide hu0
            obtain ⟨q1, n1, d1, hr1, hu1⟩ := (HRF.out wr HBW.out).at (i := j + 1) (by omega)
            have HU1 := hide hu1
            have hbd : Below wr.heap.size wr wr.drew := (Below.refl _ wr).drew
            have HST := hide (HSTF.out wr.drew (bthen HBW.out hbd) _ _ _ _ (HS.out.later hbd) (hu0.later hbd) (HZ.out j (by omega)))
            have hi1 : ((j + 1 : Nat) : Int) = (j : Int) + 1 := by omega
            rw [hi1]
            have hj1 : j + 1 < L.length := Nat.lt_of_le_of_ne hk hkl
            have hj2 : j + 1 + 1 ≤ L.length := hj1
            obtain ⟨ha, hbj, hc, hd, he, hn, hf, hf2, hf4, hf3, hg⟩ := row_facts j L.length hj1 HN41.out
            have HG := hide hg
            clear hg
            clear hkl hi1 hu0 hu1
            go_wp2
            go_region_held3 (fun w' => w'.cell? ⟨w.heap.size, 0, none⟩ = some (.slice a0 ns.length c0) ∧ w'.cell? ⟨w.heap.size, 1, none⟩ = some (.slice a1 is.length c1) ∧ w'.cell? ⟨w.heap.size, 2, none⟩ = some (.slice a2 xs.length c2) ∧ w'.cell? ⟨w.heap.size, 3, none⟩ = some (.slice a3 bs.length c3) ∧ w'.cell? ⟨w.heap.size, 4, none⟩ = some (.slice a4 hs.length c4) ∧ w'.cell? ⟨w.heap.size + 1, 1, none⟩ = some (.slice (some ⟨rb, ro, none⟩) L.length rc) ∧ w'.cell? ⟨rb, ro + j, none⟩ = some (.slice q0 n0 d0))
              (first | exact ⟨m0, m1, m2, m3, m4, m5, hrj⟩ | exact ⟨cell_later hb2 m0, cell_later hb2 m1, cell_later hb2 m2, cell_later hb2 m3, cell_later hb2 m4, cell_later hb2 m5, cell_later hb2 hrj⟩ | go_keep)
              ((go_at_call 33; refine HST.out.mono ?_; rintro e w2 ⟨p2, n2, k2, rfl, hS2, hb2⟩))
            rename_i hHeld
            clear hHeld
            have hb2' := bthen hbd hb2
            have HS2 : Hid (SL w2 (.slice p2 n2 k2) (stN ns xs L s0 (j + 1))) := hS2
            have HX2 := hide (HX.out.call hb2')
            have HJ2 := hide (HL.out.st (j + 1) wr w2 HJ.out hb2')
            have HBW2 := hide (bthen HBW.out hb2')
            have l0 := cell_later hb2' m0
            have l1' := cell_later hb2' m1
            have l2 := cell_later hb2' m2
            have l3 := cell_later hb2' m3
            have l4 := cell_later hb2' m4
            obtain ⟨hb, bb, hbb, hlk⟩ := HLKF.out w2 HBW2.out _ _ _ _ HS2.out (HU1.out.later hb2')
            obtain ⟨re, hre0⟩ : ∃ re, readyE ns is xs bs hs (stN ns xs L s0 (j + 1)) (L.getD (j + 1) []) = re := ⟨_, rfl⟩
            rw [hre0] at hlk hbb
            have HRE := hide hre0
            have HLK := hide hlk
            clear hre0 hlk hS2 hb2 hb2' HX HJ HBW HS m0 m1 m2 m3 m4 m5 hrj hr1 hbd HST HU0 HU1
            by_cases hre : re = 0
            · subst hre
              have HBB := hide (hbb rfl)
              clear hbb
              go_wp2_with fail
              refine HLK.out.mono ?_
              rintro e w3 ⟨rfl, hb3⟩
              have HS3 := hide (HS2.out.later hb3)
              have HX3 := hide (HX2.out.call hb3)
              have HJ3 := hide (HL.out.st (j + 1) w2 w3 HJ2.out hb3)
              have HB3 := hide (bthen HBW2.out hb3)
              have hsz3 : w.heap.size + 1 < w3.heap.size := (Array.getElem?_eq_some_iff.1 HX3.out.t).1
              have hcl := HL.out.cl (j + 1) w3 (.slice p2 n2 k2) hj1 (Nat.le_of_succ_le (Nat.le_of_lt hsz3)) HB3.out HJ3.out HS3.out
              rw [← HBB.out.1, ← HBB.out.2] at hcl
              have HCL := hide hcl
              clear hcl hb3 HLK HX2 HJ2 HBW2 HS2 l0 l1' l2 l3 l4
              have hen := HEN.out
              go_wp2_with fail
              refine HCL.out.mono ?_
              rintro e w4 ⟨rfl, hj4, hb4, hk4, hki4⟩
              have HS4 := hide (SL_kept HS3.out hki4)
              have HZ4 : Hid (∀ i, i < (j + 1) + 1 → rdE ns is xs bs hs L s0 i = 0) := fun i hi => by
                rcases Nat.lt_succ_iff_lt_or_eq.1 hi with h | h
                · exact HZ.out i h
                · rw [h]; exact HRE.out
              have HX4 := hide (HX3.out.look hk4)
              have HJ4 := hide hj4
              have HB4 := hide (HB3.out.trans hb4)
              clear hj4 hb4 hk4 hki4 HCL HS3 HX3 HJ3 HB3 hen ha hbj hc hd he hn hf hf2 hf3 hf4
              go_wp2
              go_roundw
              case rel => exact ⟨(j + 1) + 1, hj2, congrArg (Value.int .i64) (by omega), rfl, ⟨_, _, _, rfl, HS4⟩, HZ4, HX4, HJ4, HB4⟩
              case measure => simp [intOf]; omega
            · have hreb : (re != 0) = true := by simp [hre]
              have HRN := hide hre
              clear hre hbb
              go_wp2_with fail
              refine HLK.out.mono ?_
              rintro e w3 ⟨rfl, hb3⟩
              have HB3 := hide (bthen HBW2.out hb3)
              have HF : Hid (wkE ns is xs bs hs st L = re) := by
                unfold Hid
                rw [HWE2.out, firstN_hit (k := (j + 1)) hj1 HZ.out (by unfold rdE; rw [HRE.out]; exact HRN.out)]
                exact HRE.out
              clear hb3 HLK HX2 HJ2 HBW2 HS2 l0 l1' l2 l3 l4
              go_wp2_with fail
              go_ret
              exact ⟨(by rw [HF.out]; rfl), (fun h => absurd (HF.out.symm.trans h) HRN.out), HB3.out⟩
    · have hbb : (be != 0) = true := by simp [hb]
      have HE2 : Hid (wkE ns is xs bs hs st L = be) := by unfold Hid; rw [HWE.out, if_pos hb]
      have HEN2 := hide hb
      clear hb
      go_wp2_with fail
      go_ret
      exact ⟨(by rw [HE2.out]; rfl), (fun h => absurd (HE2.out.symm.trans h) HEN2.out), HB2.out⟩
end Go.Proofs.YtfobcnhibhbbaaaGreatDoor.Ev.Xp
