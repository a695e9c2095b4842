/- The law: Explore and Can answer just what the plain text does: the walk. -/
import Derived.Test.YtfobcnhibhbbaaaZb
import Derived.Test.YtfobcnhibhbbaaaNi
import Derived.Laws.StructEq
namespace Go.Proofs.Ytfobcnhibhbbaaa.Xp
open Go.RowKit Go.Maps
set_option maxRecDepth 100000

theorem small_cnt {ns : List Nd} (hW : Wok ns) (h : smallB ns = true) : cntK ns 3 ≤ 512 := by
  unfold smallB at h
  have h1 := of_decide_eq_true h
  have e2 := (allL_sum ns hW (sel (isK ns 2) ns.length)).1
  have e3 := (allL_sum ns hW (sel (isK ns 3) ns.length)).1
  have c3 := cnt_two hW 3
  have t3 := two_le (sumW ns (sel (isK ns 3) ns.length)).toNat 9 (by omega)
  rw [Int.toNat_of_nonneg e3] at t3
  rw [show two ((9 : Nat) : Int) = 512 from rfl] at t3
  omega
/-- The load of how far a state is, under a name: what it reads is known behind the calls alone. -/
def loadD : Op := .load 3 (.tmp 70)
theorem loadD_fold : Op.load 3 (.tmp 70) = loadD := rfl
theorem loadD_is : loadD = Op.load 3 (.tmp 70) := rfl
attribute [local go_sem] loadD_is
set_option maxHeartbeats 4000000 in
theorem exploreAlls_walk (a0 a1 a2 a3 a4 : Option Addr) (c0 c1 c2 c3 c4 : Nat) (ns : List Nd) (is xs : List (Int × Int)) (bs hs : List Int) (hln : ns.length ≤ 2932031007402) (hli : is.length ≤ 8796093022208) (hlx : xs.length ≤ 8796093022208) (hlb : bs.length ≤ maxLen) (hlh : hs.length ≤ maxLen) (hn3 : a3 = none → c3 = 0) (hn4 : a4 = none → c4 = 0)
    (s : List Int) (hls : s.length ≤ maxLen) (p : Option Addr) (cap : Nat) (h41 : s.length ≤ cap) (h42 : cap ≤ maxLen) (w : World) (hMd : MdAt ⟨a0, c0, a1, is.length, c1, a2, xs.length, c2, a3, bs.length, c3, a4, hs.length, c4⟩ ns is xs bs hs w) (hI : IntsAt w p s) :
    Calls Try.prog 3 #[Mv.val ⟨a0, c0, a1, is.length, c1, a2, xs.length, c2, a3, bs.length, c3, a4, hs.length, c4⟩ ns.length, .slice p s.length cap] w fun e w' => e = .returned (.bool true) ∧ Below w.heap.size w w' := by
  have hlm : ns.length ≤ maxLen := by unfold maxLen; omega
  have HB0 : Hid (Below w.heap.size w (w.alloc (.cells (Mv.cells ⟨a0, c0, a1, is.length, c1, a2, xs.length, c2, a3, bs.length, c3, a4, hs.length, c4⟩ ns.length) 26))) := bal (Below.refl _ _) _
  have HBX := hide (Box.new w ⟨a0, c0, a1, is.length, c1, a2, xs.length, c2, a3, bs.length, c3, a4, hs.length, c4⟩ ns.length)
  have HMF := hide (fun (W : World) (hb : Below w.heap.size w W) => hMd.later hb)
  have HIF := hide (fun (W : World) (hb : Below w.heap.size w W) => hI.later hb)
  have HEXP := hide (fun (W : World) (hb : Below w.heap.size w W) => explore_any a0 a1 a2 a3 a4 c0 c1 c2 c3 c4 ns is xs bs hs hlm hli hlx hlb hlh W (HMF.out W hb))
  have HCAN := hide (fun (W : World) (hb : Below w.heap.size w W) => can_any a0 a1 a2 a3 a4 c0 c1 c2 c3 c4 ns is xs bs hs hln hli hlx hlb hlh s p cap ⟨h41, h42⟩ W (HMF.out W hb) (HIF.out W hb))
  have HCM := hide (fun (W : World) (hb : Below w.heap.size w W) => checkModelR_any a0 a1 a2 a3 a4 c0 c1 c2 c3 c4 ns is xs bs hs hlm hli hlx hlb hlh hn3 hn4 W (HMF.out W hb).nd (HMF.out W hb).pi (HMF.out W hb).px (HMF.out W hb).ib (HMF.out W hb).ih)
  have HCW := hide (fun (hck : checkE ns is xs bs hs = 0) (W : World) (hb : Below w.heap.size w W) => wordsR_any ⟨a0, c0, a1, is.length, c1, a2, xs.length, c2, a3, bs.length, c3, a4, hs.length, c4⟩ ns (check_zero hck).1.1 (nodes_ok (check_zero hck).2.1).1 3 s p cap hls W (HMF.out W hb).nd (HIF.out W hb))
  clear hMd hI
  obtain ⟨ce, hce⟩ : ∃ ce, checkE ns is xs bs hs = ce := ⟨_, rfl⟩
  obtain ⟨be, hbe⟩ : ∃ be, beginE ns is xs bs hs s = be := ⟨_, rfl⟩
  have HBE : Hid (be = if ce ≠ 0 then ce else wordsE ns 3 s) := by unfold Hid; rw [← hbe, ← hce]; rfl
  have HCE := hide hce
  rw [hce] at HEXP HCM
  rw [hbe] at HCAN
  obtain ⟨f, hf⟩ : ∃ f, fdI ns is xs bs hs ce = f := ⟨_, rfl⟩
  obtain ⟨ok, hok⟩ : ∃ ok, canI ns is xs bs hs s be = ok := ⟨_, rfl⟩
  have HF := hide hf
  have HOK := hide hok
  rw [hf] at HEXP
  rw [hok] at HCAN
  clear hf hok hbe hce
  obtain ⟨fr, fdp, fbad, fbdd⟩ := f
  unfold fdV at HEXP
  simp only at HEXP
  go_enter Try.func3, Try.ntmps3
  go_upto_region 1 with fail
  generalize w.alloc (.cells (Mv.cells ⟨a0, c0, a1, is.length, c1, a2, xs.length, c2, a3, bs.length, c3, a4, hs.length, c4⟩ ns.length) 26) = w0 at *
  obtain ⟨q0, q1, q2, q3, q4⟩ := HBX.out
  go_wp2_with fail
  refine (HEXP.out w0 HB0.out).mono ?_
  rintro e w1 ⟨rfl, hb1⟩
  have HB1 := hide (bthen HB0.out hb1)
  have HB01 : Hid (Below w0.heap.size w0 (w1.alloc (.cells #[.int .i64 fr, .int .i64 fdp, .bool fbad, .int .i64 fbdd] 28))) := bal hb1 _
  have HB2 : Hid (Below w.heap.size w (w1.alloc (.cells #[.int .i64 fr, .int .i64 fdp, .bool fbad, .int .i64 fbdd] 28))) := bal HB1.out _
  have HFB : Hid ((w1.alloc (.cells #[.int .i64 fr, .int .i64 fdp, .bool fbad, .int .i64 fbdd] 28)).heap[w1.heap.size]? = some (.cells #[.int .i64 fr, .int .i64 fdp, .bool fbad, .int .i64 fbdd] 28 (0, 0))) := (MapKept.heap_alloc w1 _).1
  have z0 := cell_later HB01.out q0
  have z1 := cell_later HB01.out q1
  have z2 := cell_later HB01.out q2
  have z3 := cell_later HB01.out q3
  have z4 := cell_later HB01.out q4
  clear q0 q1 q2 q3 q4 hb1 HEXP HB1 HBX
  go_upto_region 2 with fail
  generalize w1.alloc (.cells #[.int .i64 fr, .int .i64 fdp, .bool fbad, .int .i64 fbdd] 28) = w2 at *
  generalize w1.heap.size = bF at *
  go_wp2_with fail
  refine (HCAN.out w2 HB2.out).mono ?_
  rintro e w3 ⟨rfl, hb3⟩
  have HB3 := hide (bthen HB2.out hb3)
  have HFB3 := hide ((hb3.block bF (Array.getElem?_eq_some_iff.1 HFB.out).1).trans HFB.out)
  have y0 := cell_later hb3 z0
  have y1 := cell_later hb3 z1
  have y2 := cell_later hb3 z2
  have y3 := cell_later hb3 z3
  have y4 := cell_later hb3 z4
  clear z0 z1 z2 z3 z4 hb3 HCAN HB2 HFB HB01 HB0
  go_wp2_with fail
  refine (HCM.out w3 HB3.out).mono ?_
  rintro e w4 ⟨rfl, hb4⟩
  have HB4 := hide (bthen HB3.out hb4)
  have HFB4 := hide ((hb4.block bF (Array.getElem?_eq_some_iff.1 HFB3.out).1).trans HFB3.out)
  have x0 := cell_later hb4 y0
  have x1 := cell_later hb4 y1
  have x2 := cell_later hb4 y2
  have x3 := cell_later hb4 y3
  have x4 := cell_later hb4 y4
  clear y0 y1 y2 y3 y4 hb4 HCM HB3 HFB3
  have HBG := hide exploreBegun_any
  by_cases he : ce = 0
  · subst he
    have hbe : wordsE ns 3 s = be := by rw [HBE.out]; rfl
    have HCW5 := hide (HCW.out HCE.out w4 HB4.out)
    rw [hbe] at HCW5
    have HWE := hide hbe
    clear hbe HCW HBE
    go_wp2_with fail
    refine HCW5.out.mono ?_
    rintro e w5 ⟨rfl, hb5⟩
    have HB5 := hide (bthen HB4.out hb5)
    have HFB5 := hide ((hb5.block bF (Array.getElem?_eq_some_iff.1 HFB4.out).1).trans HFB4.out)
    have u0 := cell_later hb5 x0
    have u1 := cell_later hb5 x1
    have u2 := cell_later hb5 x2
    have u3 := cell_later hb5 x3
    have u4 := cell_later hb5 x4
    clear x0 x1 x2 x3 x4 hb5 HCW5 HB4 HFB4
    go_wp2_with fail
    refine (HBG.out w5).mono ?_
    rintro e w6 ⟨rfl, hb6⟩
    have HB6 := hide (bthen HB5.out hb6)
    have HFB6 := hide ((hb6.block bF (Array.getElem?_eq_some_iff.1 HFB5.out).1).trans HFB5.out)
    have v0 := cell_later hb6 u0
    have v1 := cell_later hb6 u1
    have v2 := cell_later hb6 u2
    have v3 := cell_later hb6 u3
    have v4 := cell_later hb6 u4
    clear u0 u1 u2 u3 u4 hb6 HBG HB5 HFB5
    have hW := (nodes_ok (check_zero HCE.out).2.1).1
    have hl80 := (check_zero HCE.out).1.1
    have HSM := hide (small_any ⟨a0, c0, a1, is.length, c1, a2, xs.length, c2, a3, bs.length, c3, a4, hs.length, c4⟩ ns hl80 hW w6 (HMF.out w6 HB6.out).nd)
    have HSC := hide (fun h => small_cnt hW h)
    have HW := hide hW
    generalize hsm : smallB ns = sm at *
    clear hsm hW
    go_wp2_with fail
    refine HSM.out.mono ?_
    rintro e w7 ⟨rfl, hb7⟩
    have HB7 := hide (bthen HB6.out hb7)
    have HFB7 := hide ((hb7.block bF (Array.getElem?_eq_some_iff.1 HFB6.out).1).trans HFB6.out)
    have q0 := cell_later hb7 v0
    have q1 := cell_later hb7 v1
    have q2 := cell_later hb7 v2
    have q3 := cell_later hb7 v3
    have q4 := cell_later hb7 v4
    clear v0 v1 v2 v3 v4 hb7 HSM HB6 HFB6
    cases sm
    case false =>
      by_cases hb0 : be = 0
      · subst hb0
        go_wp2_with fail
        go_ret
        exact ⟨rfl, HB7.out⟩
      · have hbb : (be == 0) = false := by simp [hb0]
        have hok : ok = false := by rw [← HOK.out]; unfold canI; rw [if_neg hb0]
        subst hok
        go_wp2_with fail
        go_ret
        exact ⟨rfl, HB7.out⟩
    case true =>
      have HN5 := hide (HSC.out rfl)
      have HFK : Hid (fdK ns is xs bs hs = ⟨fr, fdp, fbad, fbdd⟩) := by have h := HF.out; unfold fdI at h; rw [if_pos rfl] at h; exact h
      have HXO := hide (fun (W : World) (hb : Below w.heap.size w W) => exploreOf_any a0 a1 a2 a3 a4 c0 c1 c2 c3 c4 ns is xs bs hs HCE.out hli hlx HN5.out W (HMF.out W hb))
      rw [HFK.out] at HXO
      unfold fdV at HXO
      simp only at HXO
      by_cases hb0 : be = 0
      · subst hb0
        have hok : ok = canK ns is xs bs hs s := by rw [← HOK.out]; unfold canI; rw [if_pos rfl]
        have hnum := wrd_num HWE.out
        have HWY := hide (fun (W : World) (hb : Below w.heap.size w W) => waysOf_any a0 a1 a2 a3 a4 c0 c1 c2 c3 c4 ns is xs bs hs HCE.out hlx W (HMF.out W hb))
        have HLY := hide (fun (pN pB : Option Addr) (cN cB : Nat) (W : World) (hb : Below w.heap.size w W) (hR : RowsI W pN ((List.range (cntK ns 3)).map (nxK ns xs bs hs))) => layers_any a0 a1 a2 a3 a4 c0 c1 c2 c3 c4 ns is xs bs hs HCE.out hli HN5.out pN pB cN cB W (HMF.out W hb) hR)
        have HNU := hide (fun (W : World) (hb : Below w.heap.size w W) => numberOf_any ⟨a0, c0, a1, is.length, c1, a2, xs.length, c2, a3, bs.length, c3, a4, hs.length, c4⟩ ns hl80 HW.out 3 (check_bits HCE.out).2.1 s (fit_words.2 HWE.out) p cap W (HMF.out W hb).nd (HIF.out W hb))
        have HNW : Hid (numL (wsK ns 3) s = numL ((sel (isK ns 3) ns.length).map (wdOf ns)) s) := rfl
        rw [← HNW.out] at HNU
        have HCK : Hid (canK ns is xs bs hs s = decide (0 ≤ (layK ns is xs bs hs).getD (numL (wsK ns 3) s).toNat 0)) := rfl
        have HLL : Hid ((layK ns is xs bs hs).length = cntK ns 3) := by unfold Hid layK; rw [layN_len, iniN_len, List.length_replicate]
        generalize numL (wsK ns 3) s = tv at *
        have ht0 : 0 ≤ tv := hnum.2.2
        have ht1 : tv < (cntK ns 3 : Int) := by have := hnum.1; omega
        obtain ⟨dv, hdv⟩ : ∃ dv, (layK ns is xs bs hs).getD tv.toNat 0 = dv := ⟨_, rfl⟩
        rw [hdv] at HCK
        have HDV := hide hdv
        have hokd : ok = decide (0 ≤ dv) := hok.trans HCK.out
        have HOKD := hide hokd
        have HBD : Hid (Below w.heap.size w w7.drew) := HB7.out.drew
        clear hnum HNW hok HCK hdv hokd
        generalize cntK ns 3 = N at *
        go_upto_region 15 with fail
        simp only [loadD_fold]
        go_region_held3 (fun w' => w'.cell? ⟨w.heap.size, 0, none⟩ = some (.slice a0 ns.length c0) ∧ w'.cell? ⟨w.heap.size, 1, none⟩ = some (.slice a1 is.length c1) ∧ w'.cell? ⟨w.heap.size, 2, none⟩ = some (.slice a2 xs.length c2) ∧ w'.cell? ⟨w.heap.size, 3, none⟩ = some (.slice a3 bs.length c3) ∧ w'.cell? ⟨w.heap.size, 4, none⟩ = some (.slice a4 hs.length c4))
          (refine ⟨cell_later (w := w7.drew) ?_ q0, cell_later (w := w7.drew) ?_ q1, cell_later (w := w7.drew) ?_ q2, cell_later (w := w7.drew) ?_ q3, cell_later (w := w7.drew) ?_ q4⟩ <;> (first | exact Below.refl _ _ | exact hbA | exact bthen hbA hbB | exact bthen (bthen hbA hbB) hbC))
          (first | (go_at_call 11; refine (HWY.out _ HBD.out).mono ?_; rintro e wA ⟨pN, cN, pB, cB, rfl, hRN, _, hbA⟩) | (go_at_call 10; refine (HLY.out _ _ _ _ _ (bthen HBD.out hbA) hRN).mono ?_; rintro e wB ⟨gB, rfl, hRB, hbB⟩) | (go_at_call 12; refine (HNU.out _ (bthen (bthen HBD.out hbA) hbB)).mono ?_; rintro e wC ⟨rfl, hbC⟩; have hlc := (hRB.later hbC).at tv ht0 (by rw [HLL.out]; exact ht1); rw [HDV.out] at hlc))
        have HBC := hide (bthen (bthen (bthen HBD.out hbA) hbB) hbC)
        have h7C : Below w7.heap.size w7 wC := bthen (bthen (bthen (Below.refl _ w7).drew hbA) hbB) hbC
        have HFB9 := hide ((h7C.block bF (Array.getElem?_eq_some_iff.1 HFB7.out).1).trans HFB7.out)
        have k0 := cell_later h7C q0
        have k1 := cell_later h7C q1
        have k2 := cell_later h7C q2
        have k3 := cell_later h7C q3
        have k4 := cell_later h7C q4
        rw [← HOKD.out]
        clear hbA hbB hbC hRN hRB hlc h7C q0 q1 q2 q3 q4 HFB7 HWY HLY HNU HBD HB7
        obtain ⟨⟨f0, f1, f2, f3⟩, _⟩ := cells4 HFB9.out
        have HBD9 : Hid (Below w.heap.size w wC.drew) := HBC.out.drew
        go_upto_region 16 with fail
        go_region_held3 (fun w' => w'.cell? ⟨w.heap.size, 0, none⟩ = some (.slice a0 ns.length c0) ∧ w'.cell? ⟨w.heap.size, 1, none⟩ = some (.slice a1 is.length c1) ∧ w'.cell? ⟨w.heap.size, 2, none⟩ = some (.slice a2 xs.length c2) ∧ w'.cell? ⟨w.heap.size, 3, none⟩ = some (.slice a3 bs.length c3) ∧ w'.cell? ⟨w.heap.size, 4, none⟩ = some (.slice a4 hs.length c4) ∧ w'.cell? ⟨bF, 0, none⟩ = some (.int .i64 fr) ∧ w'.cell? ⟨bF, 1, none⟩ = some (.int .i64 fdp) ∧ w'.cell? ⟨bF, 2, none⟩ = some (.bool fbad) ∧ w'.cell? ⟨bF, 3, none⟩ = some (.int .i64 fbdd))
          (refine ⟨cell_later (w := wC.drew) ?_ k0, cell_later (w := wC.drew) ?_ k1, cell_later (w := wC.drew) ?_ k2, cell_later (w := wC.drew) ?_ k3, cell_later (w := wC.drew) ?_ k4, cell_later (w := wC.drew) ?_ f0, cell_later (w := wC.drew) ?_ f1, cell_later (w := wC.drew) ?_ f2, cell_later (w := wC.drew) ?_ f3⟩ <;> (first | exact Below.refl _ _ | exact hbX))
          ((go_at_call 13; refine (HXO.out _ HBD9.out).mono ?_; rintro e wX ⟨rfl, hbX⟩))
        go_wp2_with fail
        go_ret
        exact ⟨rfl, bthen HBD9.out hbX⟩
      · have hbb : (be == 0) = false := by simp [hb0]
        have hok : ok = false := by rw [← HOK.out]; unfold canI; rw [if_neg hb0]
        subst hok
        have HFB9 := hide HFB7.out
        clear hb0
        obtain ⟨⟨f0, f1, f2, f3⟩, _⟩ := cells4 HFB9.out
        have HBD9 : Hid (Below w.heap.size w w7.drew) := HB7.out.drew
        go_upto_region 16 with fail
        go_region_held3 (fun w' => w'.cell? ⟨w.heap.size, 0, none⟩ = some (.slice a0 ns.length c0) ∧ w'.cell? ⟨w.heap.size, 1, none⟩ = some (.slice a1 is.length c1) ∧ w'.cell? ⟨w.heap.size, 2, none⟩ = some (.slice a2 xs.length c2) ∧ w'.cell? ⟨w.heap.size, 3, none⟩ = some (.slice a3 bs.length c3) ∧ w'.cell? ⟨w.heap.size, 4, none⟩ = some (.slice a4 hs.length c4) ∧ w'.cell? ⟨bF, 0, none⟩ = some (.int .i64 fr) ∧ w'.cell? ⟨bF, 1, none⟩ = some (.int .i64 fdp) ∧ w'.cell? ⟨bF, 2, none⟩ = some (.bool fbad) ∧ w'.cell? ⟨bF, 3, none⟩ = some (.int .i64 fbdd))
          (refine ⟨cell_later (w := w7.drew) ?_ q0, cell_later (w := w7.drew) ?_ q1, cell_later (w := w7.drew) ?_ q2, cell_later (w := w7.drew) ?_ q3, cell_later (w := w7.drew) ?_ q4, cell_later (w := w7.drew) ?_ f0, cell_later (w := w7.drew) ?_ f1, cell_later (w := w7.drew) ?_ f2, cell_later (w := w7.drew) ?_ f3⟩ <;> (first | exact Below.refl _ _ | exact hbX))
          ((go_at_call 13; refine (HXO.out _ HBD9.out).mono ?_; rintro e wX ⟨rfl, hbX⟩))
        go_wp2_with fail
        go_ret
        exact ⟨rfl, bthen HBD9.out hbX⟩
  · have hne : (ce != 0) = true := by simp [he]
    have hne2 : (ce == 0) = false := by simp [he]
    have hbe : be = ce := by rw [HBE.out, if_pos he]
    subst hbe
    have hok : ok = false := by rw [← HOK.out]; unfold canI; rw [if_neg he]
    subst hok
    have hfz : (⟨fr, fdp, fbad, fbdd⟩ : Fd) = Fd.zero := by rw [← HF.out]; unfold fdI; rw [if_neg he]
    unfold Fd.zero at hfz
    injection hfz with g1 g2 g3 g4
    subst g1 g2 g3 g4
    obtain ⟨⟨f0, f1, f2, f3⟩, _⟩ := cells4 HFB4.out
    have HFB6' := hide (fun (W : World) (hb : Below w4.heap.size w4 W) => cells4 ((hb.block bF (Array.getElem?_eq_some_iff.1 HFB4.out).1).trans HFB4.out))
    clear HBE HCW he
    go_wp2_with fail
    refine (HBG.out w4).mono ?_
    rintro e w6 ⟨rfl, hb6⟩
    have HB6 := hide (bthen HB4.out hb6)
    obtain ⟨⟨g0, g1, g2, g3⟩, _⟩ := HFB6'.out w6 hb6
    clear f0 f1 f2 f3 hb6 HBG HFB6' x0 x1 x2 x3 x4
    go_wp2_with fail
    go_ret
    exact ⟨rfl, HB6.out⟩
end Go.Proofs.Ytfobcnhibhbbaaa.Xp
