/- The law ExploreFinds: what plays to a bad state was to be found: the walk. -/
import Derived.Test.YtfobcnhibhbbaaaGreatDoorKbM
import Derived.Test.YtfobcnhibhbbaaaGreatDoorKd
import Derived.Test.YtfobcnhibhbbaaaGreatDoorHwM
namespace Go.Proofs.YtfobcnhibhbbaaaGreatDoor.Ev.Xp
open Go.RowKit
set_option maxRecDepth 100000

theorem wk_check {ns : List Nd} {is xs : List (Int × Int)} {bs hs st : List Int} {L : List (List Int)} (h : wkE ns is xs bs hs st L = 0) : checkE ns is xs bs hs = 0 := by
  have hb := (wk_few h).2.2.1
  unfold beginE at hb
  by_cases h1 : checkE ns is xs bs hs = 0
  · exact h1
  · rw [if_pos h1] at hb; exact hb
theorem bad_all {ns : List Nd} {is xs : List (Int × Int)} {bs hs st : List Int} {L : List (List Int)} (h : wkE ns is xs bs hs st L = 0) (hb : badT ns is xs bs hs st L = true) :
    ((fdK ns is xs bs hs).bad = true ∧ (fdK ns is xs bs hs).bdd ≤ ((L.length - 1 : Nat) : Int)) ∧ canI ns is xs bs hs (stN ns xs L (beginI ns is 0 st) (L.length - 1)) (beginE ns is xs bs hs (stN ns xs L (beginI ns is 0 st) (L.length - 1))) = true ∧ beginE ns is xs bs hs (stN ns xs L (beginI ns is 0 st) (L.length - 1)) = 0 := by
  obtain ⟨h0, h1, h2, h3⟩ := wk_few h
  have hck := wk_check h
  obtain ⟨n, hn⟩ : ∃ n, L.length = n + 1 := ⟨L.length - 1, by omega⟩
  unfold badT at hb
  rw [hn] at hb
  simp only [Bool.and_eq_true] at hb
  obtain ⟨⟨_, hh⟩, hl⟩ := hb
  have hws : wordsE ns 3 st = 0 := by
    unfold beginE at h2
    rw [if_neg (by rw [hck]; simp)] at h2
    exact h2
  have hr : ∀ k, k < L.length → wordsE ns 3 (stN ns xs L (beginI ns is 0 st) k) = 0 ∧ wordsE ns 2 (L.getD k []) = 0 := by
    intro k hk
    have := h3 k hk
    unfold rdE readyE at this
    rw [if_neg (by rw [hck]; simp)] at this
    by_cases h4 : wordsE ns 3 (stN ns xs L (beginI ns is 0 st) k) = 0
    · rw [if_neg (by rw [h4]; simp)] at this
      exact ⟨h4, this⟩
    · rw [if_pos h4] at this
      exact absurd this h4
  have hi : beginI ns is 0 st ∈ iniL ns is := by
    unfold beginI
    rw [if_pos rfl]
    exact ini_mem hws
  obtain ⟨hf, hc⟩ := bad_found hck hi (fun k hk => (hr k hk).2) hn hh hl
  have he : L.length - 1 = n := by omega
  rw [he]
  have hbe : beginE ns is xs bs hs (stN ns xs L (beginI ns is 0 st) n) = 0 := by
    unfold beginE
    rw [if_neg (by rw [hck]; simp)]
    exact (hr n (by omega)).1
  refine ⟨hf, ?_, hbe⟩
  unfold canI
  rw [hbe, if_pos rfl]
  exact hc
theorem boxw_cells {w : World} {B : Nat} {x0 x1 x2 x3 x4 y0 y1 : Value} (h : BoxW w B #[x0, x1, x2, x3, x4] #[y0, y1]) : w.cell? ⟨B, 0, none⟩ = some x0 ∧ w.cell? ⟨B, 1, none⟩ = some x1 ∧ w.cell? ⟨B, 2, none⟩ = some x2 ∧ w.cell? ⟨B, 3, none⟩ = some x3 ∧ w.cell? ⟨B, 4, none⟩ = some x4 ∧ w.cell? ⟨B + 1, 0, none⟩ = some y0 ∧ w.cell? ⟨B + 1, 1, none⟩ = some y1 := by
  have h1 := fun i => Lib.cell_of_heap h.m i
  have h2 := fun i => Lib.cell_of_heap h.t i
  exact ⟨h1 0, h1 1, h1 2, h1 3, h1 4, h2 0, h2 1⟩
theorem last_facts (l : Nat) (h0 : l ≠ 0) (h : l ≤ 41) : ∃ n : Nat, l - 1 = n ∧ (0 : Int) ≤ (n : Int) ∧ (n : Int) < (l : Int) ∧ wrap64 ((l : Int) - 1) = (n : Int) ∧ IntKind.i64.wrap ((l : Int) - 1) = (n : Int) := by
  refine ⟨l - 1, rfl, by omega, by omega, ?_, ?_⟩
  · unfold wrap64; omega
  · have e : (l : Int) - 1 = ((l - 1 : Nat) : Int) := by omega
    rw [e]
    exact wrap_small (l - 1) (by omega)
set_option maxHeartbeats 4000000 in
theorem finds_walk (a0 a1 a2 a3 a4 : Option Addr) (c0 c1 c2 c3 c4 : Nat) (ns : List Nd) (is xs : List (Int × Int)) (bs hs : List Int) (hln : ns.length ≤ 2932031007402) (hli : is.length ≤ 8796093022208) (hlx : xs.length ≤ 8796093022208) (hlb : bs.length ≤ maxLen) (hlh : hs.length ≤ maxLen)
    (st : List Int) (sp rp : Option Addr) (sc rc : Nat) (L : List (List Int)) (hlr : ∀ r ∈ L, r.length ≤ maxLen) (mx : Int) (w : World) (hMd : MdAt ⟨a0, c0, a1, is.length, c1, a2, xs.length, c2, a3, bs.length, c3, a4, hs.length, c4⟩ ns is xs bs hs w) (hS0 : SL w (.slice sp st.length sc) st) (hR0 : RowsS w rp L) (hm : w.cell? ⟨1, 0, none⟩ = some (.int .i64 mx)) (htab : Lib.TabIs Tryz.prog w "internal/strconv.uint64pow10" .u64 Lib.pow10Tab) :
    Calls Tryz.prog 3 #[Mv.val ⟨a0, c0, a1, is.length, c1, a2, xs.length, c2, a3, bs.length, c3, a4, hs.length, c4⟩ ns.length, .agg #[.slice sp st.length sc, .slice rp L.length rc]] w fun e w' => e = .returned (.bool true) ∧ Below w.heap.size w w' := by
  have hlm : ns.length ≤ maxLen := by unfold maxLen; omega
  have HB0 : Hid (Below w.heap.size w ((w.alloc (.cells (Mv.cells ⟨a0, c0, a1, is.length, c1, a2, xs.length, c2, a3, bs.length, c3, a4, hs.length, c4⟩ ns.length) 26)).alloc (.cells #[.slice sp st.length sc, .slice rp L.length rc] 29))) := bal (bal (Below.refl _ _) _) _
  have HBX : Hid (BoxW ((w.alloc (.cells (Mv.cells ⟨a0, c0, a1, is.length, c1, a2, xs.length, c2, a3, bs.length, c3, a4, hs.length, c4⟩ ns.length) 26)).alloc (.cells #[.slice sp st.length sc, .slice rp L.length rc] 29)) w.heap.size #[.slice a0 ns.length c0, .slice a1 is.length c1, .slice a2 xs.length c2, .slice a3 bs.length c3, .slice a4 hs.length c4] #[.slice sp st.length sc, .slice rp L.length rc]) := by
    refine ⟨((bal (Below.refl _ (w.alloc (.cells (Mv.cells ⟨a0, c0, a1, is.length, c1, a2, xs.length, c2, a3, bs.length, c3, a4, hs.length, c4⟩ ns.length) 26))) _).block _ (by simp)).trans (MapKept.heap_alloc w _).1, ?_⟩
    have := (MapKept.heap_alloc (w.alloc (.cells (Mv.cells ⟨a0, c0, a1, is.length, c1, a2, xs.length, c2, a3, bs.length, c3, a4, hs.length, c4⟩ ns.length) 26)) (.cells #[.slice sp st.length sc, .slice rp L.length rc] 29)).1
    rw [World.size_alloc] at this
    exact this
  have HMF := hide (fun (W : World) (hb : Below w.heap.size w W) => hMd.later hb)
  have HSF := hide (fun (W : World) (hb : Below w.heap.size w W) => hS0.later hb)
  have HRF := hide (fun (W : World) (hb : Below w.heap.size w W) => hR0.later hb)
  have HEB := hide exploreBegun_any
  have HTB := hide (fun (W : World) (hb : Below w.heap.size w W) => traceBegun_any mx W (cell_later hb hm) (tab_later htab hb))
  have HEXP := hide (fun (W : World) (hb : Below w.heap.size w W) => explore_any a0 a1 a2 a3 a4 c0 c1 c2 c3 c4 ns is xs bs hs hlm hli hlx hlb hlh W (HMF.out W hb))
  have HBAD := hide (fun (W : World) (hb : Below w.heap.size w W) => bad_any a0 a1 a2 a3 a4 c0 c1 c2 c3 c4 ns is xs bs hs hln hli hlx hlb hlh st sp rp sc rc L hlr W (HMF.out W hb) (HSF.out W hb) (HRF.out W hb))
  have HPLAY := hide (fun (hwe : wkE ns is xs bs hs st L = 0) (W : World) (hb : Below w.heap.size w W) => play_any a0 a1 a2 a3 a4 c0 c1 c2 c3 c4 ns is xs bs hs hln hli hlx hlb hlh st sp rp sc rc L hlr W (HMF.out W hb) (HSF.out W hb) (HRF.out W hb) hwe)
  have HCAN := hide (fun (s : List Int) (p : Option Addr) (cap : Nat) (hsc : s.length ≤ cap ∧ cap ≤ maxLen) (W : World) (hb : Below w.heap.size w W) (hI : IntsAt W p s) => can_any a0 a1 a2 a3 a4 c0 c1 c2 c3 c4 ns is xs bs hs hln hli hlx hlb hlh s p cap hsc W (HMF.out W hb) hI)
  clear hMd hS0 hR0 hm htab hlr
  obtain ⟨ce, hce⟩ : ∃ ce, checkE ns is xs bs hs = ce := ⟨_, rfl⟩
  obtain ⟨we, hwe⟩ : ∃ we, wkE ns is xs bs hs st L = we := ⟨_, rfl⟩
  obtain ⟨bt, hbt⟩ : ∃ bt, badT ns is xs bs hs st L = bt := ⟨_, rfl⟩
  have HWC : Hid (we = 0 → ce = 0) := fun h => by rw [← hce]; exact wk_check (hwe.trans h)
  have HBA := hide (fun (h : we = 0) (hb : bt = true) => bad_all (hwe.trans h) (hbt.trans hb))
  have HWF := hide (fun (h : we = 0) => wk_few (hwe.trans h))
  have HFD : Hid (ce = 0 → (fdI ns is xs bs hs ce) = fdK ns is xs bs hs) := fun h => by unfold fdI; rw [if_pos h]
  have HDP := hide (fd_deep (ns := ns) (is := is) (xs := xs) (bs := bs) (hs := hs))
  rw [hce] at HEXP
  rw [hwe] at HBAD HPLAY
  rw [hbt] at HBAD
  clear hce hwe hbt
  obtain ⟨f, hf⟩ : ∃ f, fdI ns is xs bs hs ce = f := ⟨_, rfl⟩
  rw [hf] at HEXP HFD
  clear hf
  obtain ⟨fr, fdp, fbad, fbdd⟩ := f
  unfold fdV at HEXP
  simp only at HEXP
  go_enter Tryz.func3, Tryz.ntmps3
  go_upto_region 1 with fail
  generalize (w.alloc (.cells (Mv.cells ⟨a0, c0, a1, is.length, c1, a2, xs.length, c2, a3, bs.length, c3, a4, hs.length, c4⟩ ns.length) 26)).alloc (.cells #[.slice sp st.length sc, .slice rp L.length rc] 29) = w0 at *
  go_wp2_with fail
  refine (HEB.out w0).mono ?_
  rintro e w1 ⟨rfl, hb1⟩
  have HB1 := hide (bthen HB0.out hb1)
  have HX1 := hide (HBX.out.call hb1)
  clear hb1 HB0 HBX HEB
  go_wp2_with fail
  refine (HTB.out w1 HB1.out).mono ?_
  rintro e w2 ⟨rfl, hb2⟩
  have HB2 := hide (bthen HB1.out hb2)
  have HX2 := hide (HX1.out.call hb2)
  obtain ⟨m0, m1, m2, m3, m4, t0, t1⟩ := boxw_cells HX2.out
  clear hb2 HB1 HX1 HTB
  go_wp2_with fail
  refine (HEXP.out w2 HB2.out).mono ?_
  rintro e w3 ⟨rfl, hb3⟩
  clear m0 m1 m2 m3 m4 t0 t1
  have HB3 := hide (bthen HB2.out hb3)
  have HX3 := hide (HX2.out.call hb3)
  have HBF : Hid (Below w3.heap.size w3 (w3.alloc (.cells #[.int .i64 fr, .int .i64 fdp, .bool fbad, .int .i64 fbdd] 32))) := bal (Below.refl _ _) _
  have HF3 : Hid ((w3.alloc (.cells #[.int .i64 fr, .int .i64 fdp, .bool fbad, .int .i64 fbdd] 32)).heap[w3.heap.size]? = some (.cells #[.int .i64 fr, .int .i64 fdp, .bool fbad, .int .i64 fbdd] 32 (0, 0))) := (MapKept.heap_alloc w3 _).1
  have HB4 := hide (bthen HB3.out HBF.out)
  have HX4 := hide (HX3.out.call HBF.out)
  clear hb3 HB2 HX2 HEXP HBF HB3 HX3
  go_upto_region 4 with fail
  generalize w3.alloc (.cells #[.int .i64 fr, .int .i64 fdp, .bool fbad, .int .i64 fbdd] 32) = w4 at *
  generalize w3.heap.size = bF at *
  obtain ⟨m0, m1, m2, m3, m4, t0, t1⟩ := boxw_cells HX4.out
  go_wp2_with fail
  refine (HBAD.out w4 HB4.out).mono ?_
  rintro e w5 ⟨rfl, hb5⟩
  clear m0 m1 m2 m3 m4 t0 t1
  have HB5 := hide (bthen HB4.out hb5)
  have HX5 := hide (HX4.out.call hb5)
  have HF5 := hide ((hb5.block bF (Array.getElem?_eq_some_iff.1 HF3.out).1).trans HF3.out)
  have f1 : w5.cell? ⟨bF, 1, none⟩ = some (.int .i64 fdp) := by rw [Lib.cell_of_heap HF5.out]; rfl
  have f2 : w5.cell? ⟨bF, 2, none⟩ = some (.bool fbad) := by rw [Lib.cell_of_heap HF5.out]; rfl
  have f3 : w5.cell? ⟨bF, 3, none⟩ = some (.int .i64 fbdd) := by rw [Lib.cell_of_heap HF5.out]; rfl
  obtain ⟨m0, m1, m2, m3, m4, t0, t1⟩ := boxw_cells HX5.out
  clear hb5 HB4 HX4 HBAD HF3
  by_cases hwe : we = 0
  · subst hwe
    have hce := HWC.out rfl
    subst hce
    have hfd := HFD.out rfl
    have hle : fbad = true → fbdd ≤ fdp := by
      have := HDP.out
      rw [← hfd] at this
      exact this
    have HBA2 := HBA.out rfl
    rw [← hfd] at HBA2
    have hl0 := (HWF.out rfl).1
    have hl41 := (HWF.out rfl).2.1
    clear HFD HDP HWC HBA hfd
    cases bt
    · clear HBA2
      cases fbad
      · clear hle hl0
        go_wp2
        go_ret
        exact ⟨rfl, HB5.out⟩
      · have hng := hle rfl
        have hng : ¬ fdp < fbdd := by omega
        clear hle hl0
        go_wp2
        go_ret
        exact ⟨rfl, HB5.out⟩
    · obtain ⟨⟨h1, h2⟩, h3, h4⟩ := HBA2 rfl
      simp only at h1 h2
      subst h1
      have hng := hle rfl
      have hng : ¬ fdp < fbdd := by omega
      have hw1 : wrap64 ((L.length : Int) - 1) = ((L.length - 1 : Nat) : Int) := by unfold wrap64; omega
      have hng2 : ¬ ((L.length - 1 : Nat) : Int) < fbdd := by omega
      clear hle HBA2 h2
      have HH3 := hide h3
      have HH4 := hide h4
      clear h3 h4
      go_wp2_with fail
      refine (HPLAY.out (by simp) w5 HB5.out).mono ?_
      rintro e w6 ⟨pb, pc, x, rfl, hx, ⟨xp, xc, rfl, hxi, hx1, hx2⟩, hb6⟩
      have HB6 := hide (bthen HB5.out hb6)
      have HX6 := hide (HX5.out.call hb6)
      have hbd : Below w6.heap.size w6 w6.drew := (Below.refl _ w6).drew
      have hcan := HCAN.out _ xp xc ⟨hx1, hx2⟩ w6.drew (bthen HB6.out hbd) (hxi.later hbd)
      rw [HH3.out, HH4.out] at hcan
      have HC := hide hcan
      have hzb : ((L.length : Int) == 0) = false := beq_eq_false_iff_ne.2 (by omega)
      have HLL := hide (last_facts L.length hl0 hl41)
      clear m0 m1 m2 m3 m4 t0 t1 f1 f2 f3 hng hng2 hcan hxi hx1 hx2 hb6 HPLAY HCAN HB5 HX5 HF5 HH3 HH4 HWF hw1
      obtain ⟨m0, m1, m2, m3, m4, -, -⟩ := boxw_cells HX6.out
      generalize (stN ns xs L (beginI ns is 0 st) (L.length - 1)).length = xl at *
      clear hl0 hl41
      obtain ⟨n, hn, hi0, hi1, hi2, hi3⟩ := HLL.out
      rw [hn] at hx
      clear HLL hn
      go_wp2
      go_region_held3 (fun w' => w'.cell? ⟨w.heap.size, 0, none⟩ = some (.slice a0 ns.length c0) ∧ w'.cell? ⟨w.heap.size, 1, none⟩ = some (.slice a1 is.length c1) ∧ w'.cell? ⟨w.heap.size, 2, none⟩ = some (.slice a2 xs.length c2) ∧ w'.cell? ⟨w.heap.size, 3, none⟩ = some (.slice a3 bs.length c3) ∧ w'.cell? ⟨w.heap.size, 4, none⟩ = some (.slice a4 hs.length c4) ∧ w'.cell? ⟨pb, n, none⟩ = some (.slice xp xl xc))
        (first | exact ⟨m0, m1, m2, m3, m4, hx⟩ | exact ⟨cell_later hb7 m0, cell_later hb7 m1, cell_later hb7 m2, cell_later hb7 m3, cell_later hb7 m4, cell_later hb7 hx⟩ | go_keep)
        ((go_at_call 9; refine HC.out.mono ?_; rintro e w7 ⟨rfl, hb7⟩))
      rename_i hHeld
      clear hHeld
      have HB7 := hide (bthen HB6.out (bthen hbd hb7))
      clear hb7 hbd HB6 HX6 m0 m1 m2 m3 m4 hx
      go_wp2
      go_ret
      exact ⟨rfl, HB7.out⟩
  · have hweb : (we != 0) = true := by simp [hwe]
    clear HBA HWF HPLAY HWC hwe
    by_cases hce : ce = 0
    · subst hce
      go_wp2
      go_ret
      exact ⟨rfl, HB5.out⟩
    · have hceb : (ce != 0) = true := by simp [hce]
      clear hce
      go_wp2
      go_ret
      exact ⟨rfl, HB5.out⟩
end Go.Proofs.YtfobcnhibhbbaaaGreatDoor.Ev.Xp
