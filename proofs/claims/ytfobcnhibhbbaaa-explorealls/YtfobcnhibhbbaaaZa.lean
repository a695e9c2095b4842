/- The plain text: what is found: the walk. -/
import Derived.Test.YtfobcnhibhbbaaaYz
namespace Go.Proofs.Ytfobcnhibhbbaaa.Xp
open Go.RowKit Go.Maps
set_option maxRecDepth 100000

/-- One of a state's moves is looked at. -/
def bad1 (d : Int) (f : Fd) (b : Bool) : Fd := if b && (!f.bad || decide (d < f.bdd)) then { f with bad := true, bdd := d } else f
theorem badN_snoc (d : Int) (l : List Bool) (b : Bool) : ∀ f, badN d f (l ++ [b]) = bad1 d (badN d f l) b := by
  induction l with
  | nil => intro f; rfl
  | cons a l ih => intro f; rw [List.cons_append, badN, badN]; exact ih _
theorem found_r (d : List Int) (bd : Nat → List Bool) (k : Nat) : 0 ≤ (foundN d bd k).r ∧ (foundN d bd k).r ≤ k := by
  induction k with
  | zero => exact ⟨Int.le_refl _, Int.le_refl _⟩
  | succ k ih =>
    rw [foundN]
    split
    · omega
    · rw [(badN_same _ _ _).1]
      simp only
      omega
/-- What is found, where it lies: nothing else has changed. -/
structure FdS (w1 wr : World) (b : Nat) (f : Fd) : Prop where
  bl : Below b w1 wr
  ob : wr.heap[b]? = some (.cells #[.int .i64 f.r, .int .i64 f.dp, .bool f.bad, .int .i64 f.bdd] 28 (0, 0))
section
variable {w1 wr w' : World} {b : Nat} {f : Fd}
theorem FdS.drew (h : FdS w1 wr b f) : FdS w1 wr.drew b f := ⟨h.bl.drew, h.ob⟩
theorem FdS.drewN (h : FdS w1 wr b f) (n : Nat) : FdS w1 (wr.drewN n) b f := ⟨⟨h.bl.os, h.bl.tape, h.bl.output, h.bl.size, h.bl.block⟩, h.ob⟩
theorem FdS.cells (h : FdS w1 wr b f) : (wr.cell? ⟨b, 0, none⟩ = some (.int .i64 f.r) ∧ wr.cell? ⟨b, 1, none⟩ = some (.int .i64 f.dp) ∧ wr.cell? ⟨b, 2, none⟩ = some (.bool f.bad) ∧ wr.cell? ⟨b, 3, none⟩ = some (.int .i64 f.bdd)) ∧ ∀ i, wr.frozen? ⟨b, i, none⟩ = false := cells4 h.ob
theorem FdS.setR (h : FdS w1 wr b f) (x : Int) : FdS w1 (wr.setCell ⟨b, 0, none⟩ (.int .i64 x)) b { f with r := x } := ⟨h.bl.setCell (p := ⟨b, 0, none⟩) (Nat.le_refl _) _, by have := heap_setCell_same wr b 0 _ _ (.int .i64 x) h.ob; simpa using this⟩
theorem FdS.setD (h : FdS w1 wr b f) (x : Int) : FdS w1 (wr.setCell ⟨b, 1, none⟩ (.int .i64 x)) b { f with dp := x } := ⟨h.bl.setCell (p := ⟨b, 1, none⟩) (Nat.le_refl _) _, by have := heap_setCell_same wr b 1 _ _ (.int .i64 x) h.ob; simpa using this⟩
theorem FdS.setB (h : FdS w1 wr b f) (x : Int) : FdS w1 ((wr.setCell ⟨b, 2, none⟩ (.bool true)).setCell ⟨b, 3, none⟩ (.int .i64 x)) b { f with bad := true, bdd := x } :=
  ⟨(h.bl.setCell (p := ⟨b, 2, none⟩) (Nat.le_refl _) _).setCell (p := ⟨b, 3, none⟩) (Nat.le_refl _) _, by
    have h1 := heap_setCell_same wr b 2 _ _ (.bool true) h.ob
    have h2 := heap_setCell_same _ b 3 _ _ (.int .i64 x) h1
    simpa using h2⟩
end
theorem gne2 {w : World} {g b s : Nat} {v u : Value} (h : g ≠ b) (hc : w.cell? ⟨g, s, none⟩ = some v) : (w.drew.setCell ⟨b, 2, none⟩ u).cell? ⟨g, s, none⟩ = some v := (World.cell?_of_block (Below.heap_setCell _ _ _ _ h)).trans hc
theorem gne3 {w : World} {g b s : Nat} {v u u2 : Value} (h : g ≠ b) (hc : w.cell? ⟨g, s, none⟩ = some v) : ((w.drew.setCell ⟨b, 2, none⟩ u).setCell ⟨b, 3, none⟩ u2).cell? ⟨g, s, none⟩ = some v := (World.cell?_of_block (Below.heap_setCell _ _ _ _ h)).trans (gne2 h hc)
set_option maxHeartbeats 8000000 in
theorem exploreOf_any (a0 a1 a2 a3 a4 : Option Addr) (c0 c1 c2 c3 c4 : Nat) (ns : List Nd) (is xs : List (Int × Int)) (bs hs : List Int) (hck : checkE ns is xs bs hs = 0) (hli : is.length ≤ 8796093022208) (hlx : xs.length ≤ 8796093022208) (hN5 : cntK ns 3 ≤ 512)
    (w : World) (hMd : MdAt ⟨a0, c0, a1, is.length, c1, a2, xs.length, c2, a3, bs.length, c3, a4, hs.length, c4⟩ ns is xs bs hs w) :
    Calls Try.prog 13 #[Mv.val ⟨a0, c0, a1, is.length, c1, a2, xs.length, c2, a3, bs.length, c3, a4, hs.length, c4⟩ ns.length] w fun e w' => e = .returned (fdV (fdK ns is xs bs hs)) ∧ Below w.heap.size w w' := by
  have HBT := hide (check_bits hck)
  have hN0 : 0 < cntK ns 3 := by have h1 := cntK_int ns 3; have h2 := allL_pos (wsK ns 3); omega
  have HB1 : Hid (Below w.heap.size w ((w.alloc (.cells (Mv.cells ⟨a0, c0, a1, is.length, c1, a2, xs.length, c2, a3, bs.length, c3, a4, hs.length, c4⟩ ns.length) 26)).alloc (.cells #[.int .i64 0, .int .i64 0, .bool false, .int .i64 0] 28))) := bal (bal (Below.refl _ _) _) _
  have HBX := hide ((Box.new w ⟨a0, c0, a1, is.length, c1, a2, xs.length, c2, a3, bs.length, c3, a4, hs.length, c4⟩ ns.length).later (bal (Below.refl _ _) (.cells #[.int .i64 0, .int .i64 0, .bool false, .int .i64 0] 28)))
  have HRB : Hid (((w.alloc (.cells (Mv.cells ⟨a0, c0, a1, is.length, c1, a2, xs.length, c2, a3, bs.length, c3, a4, hs.length, c4⟩ ns.length) 26)).alloc (.cells #[.int .i64 0, .int .i64 0, .bool false, .int .i64 0] 28)).heap[w.heap.size + 1]? = some (.cells #[.int .i64 0, .int .i64 0, .bool false, .int .i64 0] 28 (0, 0))) := by
    have h1 := (MapKept.heap_alloc (w.alloc (.cells (Mv.cells ⟨a0, c0, a1, is.length, c1, a2, xs.length, c2, a3, bs.length, c3, a4, hs.length, c4⟩ ns.length) 26)) (.cells #[.int .i64 0, .int .i64 0, .bool false, .int .i64 0] 28)).1
    rw [show (w.alloc (.cells (Mv.cells ⟨a0, c0, a1, is.length, c1, a2, xs.length, c2, a3, bs.length, c3, a4, hs.length, c4⟩ ns.length) 26)).heap.size = w.heap.size + 1 from by simp] at h1
    exact h1
  have HMF := hide (fun (W : World) (hb : Below w.heap.size w W) => hMd.later hb)
  have HWAY := hide (fun (W : World) (hm : MdAt ⟨a0, c0, a1, is.length, c1, a2, xs.length, c2, a3, bs.length, c3, a4, hs.length, c4⟩ ns is xs bs hs W) => waysOf_any a0 a1 a2 a3 a4 c0 c1 c2 c3 c4 ns is xs bs hs hck hlx W hm)
  have HLAY := hide (fun (pN pB : Option Addr) (cN cB : Nat) (W : World) (hm : MdAt ⟨a0, c0, a1, is.length, c1, a2, xs.length, c2, a3, bs.length, c3, a4, hs.length, c4⟩ ns is xs bs hs W) (hR : RowsI W pN ((List.range (cntK ns 3)).map (nxK ns xs bs hs))) => layers_any a0 a1 a2 a3 a4 c0 c1 c2 c3 c4 ns is xs bs hs hck hli hN5 pN pB cN cB W hm hR)
  have HCK := hide hck
  clear hMd hck
  obtain ⟨N, hN⟩ : ∃ N, cntK ns 3 = N := ⟨_, rfl⟩
  have HN := hide hN
  have HFD : Hid (fdK ns is xs bs hs = foundN (layK ns is xs bs hs) (bdK ns xs bs hs) N) := by unfold Hid fdK; rw [hN]
  have HLL : Hid ((layK ns is xs bs hs).length = N) := by unfold Hid layK; rw [layN_len, iniN_len, List.length_replicate]; exact hN
  rw [hN] at hN5 hN0 HWAY HLAY
  clear hN
  go_enter Try.func13, Try.ntmps13
  go_upto_region 1 with fail
  generalize (w.alloc (.cells (Mv.cells ⟨a0, c0, a1, is.length, c1, a2, xs.length, c2, a3, bs.length, c3, a4, hs.length, c4⟩ ns.length) 26)).alloc (.cells #[.int .i64 0, .int .i64 0, .bool false, .int .i64 0] 28) = wa at *
  obtain ⟨q0, q1, q2, q3, q4⟩ := HBX.out
  go_wp2_with fail
  refine (HWAY.out wa (HMF.out wa HB1.out)).mono ?_
  rintro e wb ⟨pN, cN, pB, cB, rfl, hRN, hRB, hbb⟩
  have HBb := hide (bthen HB1.out hbb)
  have HRN := hide hRN
  have HRBb := hide hRB
  have HRES := hide ((hbb.block _ (Array.getElem?_eq_some_iff.1 HRB.out).1).trans HRB.out)
  have hal : Below wb.heap.size wb (wb.alloc (.cells #[.slice pN N cN, .slice pB N cB] 42)) := bal (Below.refl _ _) _
  have z0 := cell_later hal (cell_later hbb q0)
  have z1 := cell_later hal (cell_later hbb q1)
  have z2 := cell_later hal (cell_later hbb q2)
  have z3 := cell_later hal (cell_later hbb q3)
  have z4 := cell_later hal (cell_later hbb q4)
  have HLA := hide (HLAY.out pN pB cN cB (wb.alloc (.cells #[.slice pN N cN, .slice pB N cB] 42)) (HMF.out _ (bthen HBb.out hal)) (hRN.later hal))
  have HAL := hide hal
  clear hRN hRB hbb q0 q1 q2 q3 q4 HWAY HLAY hal HRB HBX
  go_wp2_with fail
  refine HLA.out.mono ?_
  rintro e wc ⟨g, rfl, hrow, hbc⟩
  clear z0 z1 z2 z3 z4 HLA
  have HBc := hide (bthen (bthen HBb.out HAL.out) hbc)
  have hAc : Below wb.heap.size wb wc := bthen HAL.out hbc
  have hal2 : Below wc.heap.size wc (wc.alloc (.cells #[.int .i64 0, .int .i64 0, .bool false, .int .i64 0] 28)) := bal (Below.refl _ _) _
  have HF0 : Hid (FdS (wc.alloc (.cells #[.int .i64 0, .int .i64 0, .bool false, .int .i64 0] 28)) (wc.alloc (.cells #[.int .i64 0, .int .i64 0, .bool false, .int .i64 0] 28)) wc.heap.size (foundN (layK ns is xs bs hs) (bdK ns xs bs hs) 0)) := ⟨Below.refl _ _, (MapKept.heap_alloc wc _).1⟩
  have HROW := hide (hrow.later hal2)
  have HRF : Hid (∀ W, Below wc.heap.size (wc.alloc (.cells #[.int .i64 0, .int .i64 0, .bool false, .int .i64 0] 28)) W → RowsB W pB ((List.range N).map (bdK ns xs bs hs))) := fun W hb => HRBb.out.later ((bthen hAc hal2).trans (hb.mono hAc.size))
  have HRE2 := hide (((bthen hAc hal2).block _ (Array.getElem?_eq_some_iff.1 HRES.out).1).trans HRES.out)
  have HWB : Hid ((wc.alloc (.cells #[.int .i64 0, .int .i64 0, .bool false, .int .i64 0] 28)).cell? ⟨wb.heap.size, 1, none⟩ = some (.slice pB N cB)) := cell_later (bthen hbc hal2) (Lib.cell_of_heap (MapKept.heap_alloc wb _).1 1)
  have HBd := hide (bthen HBc.out hal2)
  have HGL : Hid (0 < N → g < wc.heap.size) := fun h0 => World.block_lt_of_cell? _ _ (hrow 0 (by rw [HLL.out]; exact h0)).1
  have HWL : Hid (wb.heap.size < wc.heap.size) := Nat.lt_of_lt_of_le (by simp) hbc.size
  have HRLt : Hid (w.heap.size + 1 < wc.heap.size) := Nat.lt_of_lt_of_le (Array.getElem?_eq_some_iff.1 HRES.out).1 hAc.size
  clear hrow hbc hAc hal2 HRES HRBb HRN HAL HBb HB1
  go_wp2_with fail
  generalize wc.alloc (.cells #[.int .i64 0, .int .i64 0, .bool false, .int .i64 0] 28) = w1 at *
  generalize wc.heap.size = bF at *
  generalize wb.heap.size = bW at *
  generalize layK ns is xs bs hs = dl at *
  have HIF : Hid (∀ W, Below bF w1 W → ∀ i, i < N → W.cell? ⟨g, i, none⟩ = some (.int .i64 (dl.getD i 0))) := fun W hb i hi => by
    have hi' : i < dl.length := by rw [HLL.out]; exact hi
    rw [World.cell?_of_block (w := w1) (hb.block g (HGL.out (by omega))), (HROW.out i hi').1, getD_at hi']
  have HWF : Hid (∀ W, Below bF w1 W → W.cell? ⟨bW, 1, none⟩ = some (.slice pB N cB)) := fun W hb => by
    rw [World.cell?_of_block (w := w1) (hb.block bW HWL.out)]
    exact HWB.out
  have HRC : Hid (∀ W, Below bF w1 W → ∀ s, s < N → ∃ bB q c, pB = some ⟨bB, 0, none⟩ ∧ W.cell? ⟨bB, s, none⟩ = some (.slice q (bdK ns xs bs hs s).length c) ∧ BoolsAt W q (bdK ns xs bs hs s)) := fun W hb s hs' => by
    have hN := HN.out
    obtain ⟨bB, e, hc⟩ := HRF.out W hb (by simp; omega)
    obtain ⟨q, c, h1, h2⟩ := hc s (by simp; omega)
    simp only [List.getElem_map, List.getElem_range] at h1 h2
    exact ⟨bB, q, c, e, h1, h2⟩
  obtain ⟨bB, _, _, hpB, _⟩ := HRC.out w1 (Below.refl _ _) 0 hN0
  subst hpB
  have HRD : Hid (∀ W, Below bF w1 W → ∀ s, s < N → ∃ q c, W.cell? ⟨bB, s, none⟩ = some (.slice q (bdK ns xs bs hs s).length c) ∧ BoolsAt W q (bdK ns xs bs hs s)) := fun W hb s hs' => by
    obtain ⟨b', q, c, e, h1, h2⟩ := HRC.out W hb s hs'
    injection e with e
    injection e with e
    subst e
    exact ⟨q, c, h1, h2⟩
  have HNI : Hid (∀ s, (bdK ns xs bs hs s).length ≤ 64) := fun s => by
    have := HBT.out.2.2.1
    rw [bdK_is]
    simpa using this
  have HRE : Hid (∀ W, Below bF w1 W → W.heap[w.heap.size + 1]? = some (.cells #[.int .i64 0, .int .i64 0, .bool false, .int .i64 0] 28 (0, 0))) := fun W hb => (hb.block _ HRLt.out).trans HRE2.out
  have HSF : Hid (∀ W, Below bF w1 W → Below w.heap.size w W) := fun W hb => HBd.out.trans (hb.mono (by have := HRLt.out; omega))
  have HGF : Hid (g ≠ bF) := by have := HGL.out (by omega); unfold Hid; omega
  generalize bdK ns xs bs hs = BD at *
  clear HRF HROW HWB HRE2 HCK HMF HRC
  go_loopw [6] (fun i wr => ∃ s : Nat, s ≤ N ∧ i = .int .i64 s ∧ Hid (FdS w1 wr bF (foundN dl BD s))) (fun i _ => N - (intOf i).toNat)
  case atStart => exact ⟨0, Nat.zero_le _, rfl, HF0.out⟩
  case round =>
    obtain ⟨s, hsl, rfl, HFs⟩ := hrel
    clear HF0
    by_cases hlt : s < N
    · have x0 := HIF.out wr HFs.out.bl s hlt
      have HFN : Hid (foundN dl BD (s + 1) = if dl.getD s 0 < 0 then foundN dl BD s else badN (dl.getD s 0) { foundN dl BD s with r := (foundN dl BD s).r + 1, dp := if dl.getD s 0 > (foundN dl BD s).dp then dl.getD s 0 else (foundN dl BD s).dp } (BD s)) := by unfold Hid; rw [foundN]
      have hrb := found_r dl BD s
      have HIs := hide (fun W hb => HIF.out W hb s hlt)
      generalize hf : foundN dl BD s = f at *
      generalize dl.getD s 0 = x at *
      clear hf
      by_cases hx : x < 0
      · have HF2 : Hid (FdS w1 wr bF (foundN dl BD (s + 1))) := by rw [HFN.out, if_pos hx]; exact HFs.out
        clear HFs HFN
        go_wp2_with fail
        go_roundw
        case rel => exact ⟨s + 1, by omega, by go_num, HF2.out⟩
        case measure => simp [intOf]; omega
      · obtain ⟨⟨y0, y1, y2, y3⟩, yf⟩ := HFs.out.cells
        have yf0 := yf 0
        have yf1 := yf 1
        have HF2 := hide (HFs.out.setR (f.r + 1))
        have HFN2 : Hid (foundN dl BD (s + 1) = badN x { f with r := f.r + 1, dp := if x > f.dp then x else f.dp } (BD s)) := by unfold Hid; rw [HFN.out, if_neg hx]
        have hwr : wrap64 (f.r + 1) = f.r + 1 := IntWalk.wrap64_in _ (by omega)
        clear HFs HFN yf
        go_upto_region 9 with fail
        have v0 := HIs.out _ HF2.out.bl
        have v1 := HF2.out.cells.1.2.1
        have v1f := HF2.out.cells.2 1
        clear y0 y1 y2 y3 yf0 yf1 x0
        generalize wr.setCell ⟨bF, 0, none⟩ (.int .i64 (f.r + 1)) = ws at *
        simp only at v1
        by_cases hgt : x > f.dp
        · have hgt2 : f.dp < x := hgt
          have HF3' := hide (HF2.out.drew.setD x)
          obtain ⟨f2, hf2⟩ : ∃ f2 : Fd, { f with r := f.r + 1, dp := x } = f2 := ⟨_, rfl⟩
          have HFN3 : Hid (foundN dl BD (s + 1) = badN x f2 (BD s)) := by unfold Hid; rw [HFN2.out, if_pos hgt, hf2]
          have HF3 : Hid (FdS w1 (ws.drew.setCell ⟨bF, 1, none⟩ (.int .i64 x)) bF f2) := by rw [← hf2]; exact HF3'.out
          clear HF3' HFN2 HF2 hf2
          go_region_held3 (fun w' => w'.cell? ⟨g, s, none⟩ = some (.int .i64 x) ∧ w'.cell? ⟨bF, 1, none⟩ = some (.int .i64 f.dp)) (first | exact ⟨v0, v1⟩ | go_keep) (fail)
          have HF4 : Hid (FdS w1 (ws.drew.setCell ⟨bF, 1, none⟩ (.int .i64 x)) bF (badN x f2 ((BD s).take 0))) := HF3.out
          have hNIs := HNI.out s
          have HRCs := hide (fun W hb => HRD.out W hb s hlt)
          clear HF3
          generalize BD s = L at *
          go_wp2_with fail
          go_loopw [7] (fun i wq => ∃ t : Nat, t ≤ L.length ∧ i = .int .i64 t ∧ Hid (FdS w1 wq bF (badN x f2 (L.take t)))) (fun i _ => L.length - (intOf i).toNat)
          case atStart => exact ⟨0, Nat.zero_le _, rfl, HF4.out⟩
          case round =>
            clear HF4
            obtain ⟨t, ht, rfl, HFt⟩ := hrel
            obtain ⟨qL, cL, hc0, hcB⟩ := HRCs.out wr HFt.out.bl
            have hw1 := HWF.out wr HFt.out.bl
            by_cases hlt2 : t < L.length
            · obtain ⟨bL, rfl, hcL⟩ := hcB (by omega)
              have hcl := hcL t hlt2
              have hdx := HIs.out wr HFt.out.bl
              have HTK : Hid (badN x f2 (L.take (t + 1)) = bad1 x (badN x f2 (L.take t)) L[t]) := by unfold Hid; rw [List.take_succ_eq_append_getElem hlt2, badN_snoc]
              obtain ⟨f3, hf3⟩ : ∃ f3, badN x f2 (L.take t) = f3 := ⟨_, rfl⟩
              rw [hf3] at HFt HTK
              obtain ⟨⟨y0, y1, y2, y3⟩, yf⟩ := HFt.out.cells
              have yf2 := yf 2
              have yf3 := yf 3
              clear hcL hcB hf3 yf y0 y1
              generalize L[t] = b at *
              obtain ⟨r3, d3, b3, e3⟩ := f3
              simp only at y2 y3
              cases b
              case false =>
                have HF5 : Hid (FdS w1 wr bF (badN x f2 (L.take (t + 1)))) := by rw [HTK.out]; exact HFt.out
                clear HFt HTK
                go_upto_region 14 with fail
                go_quiet (fail)
                go_wp2_with fail
                go_roundw
                case rel => exact ⟨t + 1, by omega, by go_num, HF5.out.drewN _⟩
                case measure => simp [intOf]; omega
              case true =>
                by_cases hc3 : (!b3 || decide (x < e3)) = true
                · have HB1' : Hid (bad1 x ⟨r3, d3, b3, e3⟩ true = ⟨r3, d3, true, x⟩) := by
                    unfold Hid bad1
                    rw [if_pos (by simpa using hc3)]
                  cases b3
                  case false =>
                    clear hc3
                    go_upto_region 14 with fail
                    go_quiet (fail)
                    go_upto_region 15 with fail
                    have HFq := hide (HFt.out.drewN nq)
                    have hdq := HIs.out _ HFq.out.bl
                    have z2 := HFq.out.cells.1.2.2.1
                    have z3 := HFq.out.cells.1.2.2.2
                    have zf2 := HFq.out.cells.2 2
                    have zf3 := HFq.out.cells.2 3
                    simp only at z2 z3
                    clear HFt y2 y3 yf2 yf3 hdx hcl hc0 hw1
                    generalize wr.drewN nq = wn at *
                    have HF5 : Hid (FdS w1 ((wn.drew.setCell ⟨bF, 2, none⟩ (.bool true)).setCell ⟨bF, 3, none⟩ (.int .i64 x)) bF (badN x f2 (L.take (t + 1)))) := by rw [HTK.out, HB1'.out]; exact HFq.out.drew.setB x
                    clear HFq HTK HB1'
                    go_region_held3 (fun w' => w'.cell? ⟨g, s, none⟩ = some (.int .i64 x)) (first | exact hdq | exact gne2 HGF.out hdq | exact gne3 HGF.out hdq) (fail)
                    go_wp2_with fail
                    go_roundw
                    case rel => exact ⟨t + 1, by omega, by go_num, HF5.out⟩
                    case measure => simp [intOf]; omega
                  case true =>
                    have hlt3 : x < e3 := by simpa using hc3
                    clear hc3
                    go_upto_region 14 with fail
                    go_quiet (fail)
                    go_upto_region 15 with fail
                    have HFq := hide (HFt.out.drewN nq)
                    have hdq := HIs.out _ HFq.out.bl
                    have z2 := HFq.out.cells.1.2.2.1
                    have z3 := HFq.out.cells.1.2.2.2
                    have zf2 := HFq.out.cells.2 2
                    have zf3 := HFq.out.cells.2 3
                    simp only at z2 z3
                    clear HFt y2 y3 yf2 yf3 hdx hcl hc0 hw1
                    generalize wr.drewN nq = wn at *
                    have HF5 : Hid (FdS w1 ((wn.drew.setCell ⟨bF, 2, none⟩ (.bool true)).setCell ⟨bF, 3, none⟩ (.int .i64 x)) bF (badN x f2 (L.take (t + 1)))) := by rw [HTK.out, HB1'.out]; exact HFq.out.drew.setB x
                    clear HFq HTK HB1'
                    go_region_held3 (fun w' => w'.cell? ⟨g, s, none⟩ = some (.int .i64 x)) (first | exact hdq | exact gne2 HGF.out hdq | exact gne3 HGF.out hdq) (fail)
                    go_wp2_with fail
                    go_roundw
                    case rel => exact ⟨t + 1, by omega, by go_num, HF5.out⟩
                    case measure => simp [intOf]; omega
                · obtain rfl : b3 = true := by cases b3; (simp at hc3); rfl
                  have hlt3 : ¬ x < e3 := by simpa using hc3
                  have HB1' : Hid (bad1 x ⟨r3, d3, true, e3⟩ true = ⟨r3, d3, true, e3⟩) := by
                    unfold Hid bad1
                    rw [if_neg (by simpa using hc3)]
                  have HF5 : Hid (FdS w1 wr bF (badN x f2 (L.take (t + 1)))) := by rw [HTK.out, HB1'.out]; exact HFt.out
                  clear HB1' HTK HFt hc3
                  go_upto_region 14 with fail
                  go_quiet (fail)
                  go_wp2_with fail
                  go_roundw
                  case rel => exact ⟨t + 1, by omega, by go_num, HF5.out.drewN _⟩
                  case measure => simp [intOf]; omega
            · obtain rfl : t = L.length := by omega
              have HF5 : Hid (FdS w1 wr bF (foundN dl BD (s + 1))) := by rw [HFN3.out]; have h := HFt.out; rw [List.take_length] at h; exact h
              clear HFt hcB
              go_wp2_with fail
              go_roundw
              case rel => exact ⟨s + 1, by omega, by go_num, HF5.out⟩
              case measure => simp [intOf]; omega
        · have hgt2 : ¬ f.dp < x := hgt
          have HF3' := hide HF2.out.drew
          obtain ⟨f2, hf2⟩ : ∃ f2 : Fd, { f with r := f.r + 1 } = f2 := ⟨_, rfl⟩
          have HFN3 : Hid (foundN dl BD (s + 1) = badN x f2 (BD s)) := by unfold Hid; rw [HFN2.out, if_neg hgt, hf2]
          have HF3 : Hid (FdS w1 ws.drew bF f2) := by rw [← hf2]; exact HF3'.out
          clear HF3' HFN2 HF2 hf2
          go_region_held3 (fun w' => w'.cell? ⟨g, s, none⟩ = some (.int .i64 x) ∧ w'.cell? ⟨bF, 1, none⟩ = some (.int .i64 f.dp)) (first | exact ⟨v0, v1⟩ | go_keep) (fail)
          have HF4 : Hid (FdS w1 ws.drew bF (badN x f2 ((BD s).take 0))) := HF3.out
          have hNIs := HNI.out s
          have HRCs := hide (fun W hb => HRD.out W hb s hlt)
          clear HF3
          generalize BD s = L at *
          go_wp2_with fail
          go_loopw [7] (fun i wq => ∃ t : Nat, t ≤ L.length ∧ i = .int .i64 t ∧ Hid (FdS w1 wq bF (badN x f2 (L.take t)))) (fun i _ => L.length - (intOf i).toNat)
          case atStart => exact ⟨0, Nat.zero_le _, rfl, HF4.out⟩
          case round =>
            clear HF4
            obtain ⟨t, ht, rfl, HFt⟩ := hrel
            obtain ⟨qL, cL, hc0, hcB⟩ := HRCs.out wr HFt.out.bl
            have hw1 := HWF.out wr HFt.out.bl
            by_cases hlt2 : t < L.length
            · obtain ⟨bL, rfl, hcL⟩ := hcB (by omega)
              have hcl := hcL t hlt2
              have hdx := HIs.out wr HFt.out.bl
              have HTK : Hid (badN x f2 (L.take (t + 1)) = bad1 x (badN x f2 (L.take t)) L[t]) := by unfold Hid; rw [List.take_succ_eq_append_getElem hlt2, badN_snoc]
              obtain ⟨f3, hf3⟩ : ∃ f3, badN x f2 (L.take t) = f3 := ⟨_, rfl⟩
              rw [hf3] at HFt HTK
              obtain ⟨⟨y0, y1, y2, y3⟩, yf⟩ := HFt.out.cells
              have yf2 := yf 2
              have yf3 := yf 3
              clear hcL hcB hf3 yf y0 y1
              generalize L[t] = b at *
              obtain ⟨r3, d3, b3, e3⟩ := f3
              simp only at y2 y3
              cases b
              case false =>
                have HF5 : Hid (FdS w1 wr bF (badN x f2 (L.take (t + 1)))) := by rw [HTK.out]; exact HFt.out
                clear HFt HTK
                go_upto_region 14 with fail
                go_quiet (fail)
                go_wp2_with fail
                go_roundw
                case rel => exact ⟨t + 1, by omega, by go_num, HF5.out.drewN _⟩
                case measure => simp [intOf]; omega
              case true =>
                by_cases hc3 : (!b3 || decide (x < e3)) = true
                · have HB1' : Hid (bad1 x ⟨r3, d3, b3, e3⟩ true = ⟨r3, d3, true, x⟩) := by
                    unfold Hid bad1
                    rw [if_pos (by simpa using hc3)]
                  cases b3
                  case false =>
                    clear hc3
                    go_upto_region 14 with fail
                    go_quiet (fail)
                    go_upto_region 15 with fail
                    have HFq := hide (HFt.out.drewN nq)
                    have hdq := HIs.out _ HFq.out.bl
                    have z2 := HFq.out.cells.1.2.2.1
                    have z3 := HFq.out.cells.1.2.2.2
                    have zf2 := HFq.out.cells.2 2
                    have zf3 := HFq.out.cells.2 3
                    simp only at z2 z3
                    clear HFt y2 y3 yf2 yf3 hdx hcl hc0 hw1
                    generalize wr.drewN nq = wn at *
                    have HF5 : Hid (FdS w1 ((wn.drew.setCell ⟨bF, 2, none⟩ (.bool true)).setCell ⟨bF, 3, none⟩ (.int .i64 x)) bF (badN x f2 (L.take (t + 1)))) := by rw [HTK.out, HB1'.out]; exact HFq.out.drew.setB x
                    clear HFq HTK HB1'
                    go_region_held3 (fun w' => w'.cell? ⟨g, s, none⟩ = some (.int .i64 x)) (first | exact hdq | exact gne2 HGF.out hdq | exact gne3 HGF.out hdq) (fail)
                    go_wp2_with fail
                    go_roundw
                    case rel => exact ⟨t + 1, by omega, by go_num, HF5.out⟩
                    case measure => simp [intOf]; omega
                  case true =>
                    have hlt3 : x < e3 := by simpa using hc3
                    clear hc3
                    go_upto_region 14 with fail
                    go_quiet (fail)
                    go_upto_region 15 with fail
                    have HFq := hide (HFt.out.drewN nq)
                    have hdq := HIs.out _ HFq.out.bl
                    have z2 := HFq.out.cells.1.2.2.1
                    have z3 := HFq.out.cells.1.2.2.2
                    have zf2 := HFq.out.cells.2 2
                    have zf3 := HFq.out.cells.2 3
                    simp only at z2 z3
                    clear HFt y2 y3 yf2 yf3 hdx hcl hc0 hw1
                    generalize wr.drewN nq = wn at *
                    have HF5 : Hid (FdS w1 ((wn.drew.setCell ⟨bF, 2, none⟩ (.bool true)).setCell ⟨bF, 3, none⟩ (.int .i64 x)) bF (badN x f2 (L.take (t + 1)))) := by rw [HTK.out, HB1'.out]; exact HFq.out.drew.setB x
                    clear HFq HTK HB1'
                    go_region_held3 (fun w' => w'.cell? ⟨g, s, none⟩ = some (.int .i64 x)) (first | exact hdq | exact gne2 HGF.out hdq | exact gne3 HGF.out hdq) (fail)
                    go_wp2_with fail
                    go_roundw
                    case rel => exact ⟨t + 1, by omega, by go_num, HF5.out⟩
                    case measure => simp [intOf]; omega
                · obtain rfl : b3 = true := by cases b3; (simp at hc3); rfl
                  have hlt3 : ¬ x < e3 := by simpa using hc3
                  have HB1' : Hid (bad1 x ⟨r3, d3, true, e3⟩ true = ⟨r3, d3, true, e3⟩) := by
                    unfold Hid bad1
                    rw [if_neg (by simpa using hc3)]
                  have HF5 : Hid (FdS w1 wr bF (badN x f2 (L.take (t + 1)))) := by rw [HTK.out, HB1'.out]; exact HFt.out
                  clear HB1' HTK HFt hc3
                  go_upto_region 14 with fail
                  go_quiet (fail)
                  go_wp2_with fail
                  go_roundw
                  case rel => exact ⟨t + 1, by omega, by go_num, HF5.out.drewN _⟩
                  case measure => simp [intOf]; omega
            · obtain rfl : t = L.length := by omega
              have HF5 : Hid (FdS w1 wr bF (foundN dl BD (s + 1))) := by rw [HFN3.out]; have h := HFt.out; rw [List.take_length] at h; exact h
              clear HFt hcB
              go_wp2_with fail
              go_roundw
              case rel => exact ⟨s + 1, by omega, by go_num, HF5.out⟩
              case measure => simp [intOf]; omega
    · obtain rfl : N = s := by omega
      have hFD := HFD.out
      have HRs := HRE.out wr HFs.out.bl
      rw [← hFD] at HFs
      obtain ⟨f, hf⟩ : ∃ f, fdK ns is xs bs hs = f := ⟨_, rfl⟩
      rw [hf] at HFs
      have HFF := hide hf
      clear hf
      obtain ⟨fr, fdp, fbad, fbdd⟩ := f
      obtain ⟨⟨y0, y1, y2, y3⟩, _⟩ := HFs.out.cells
      simp only at y0 y1 y2 y3
      obtain ⟨⟨k0, k1, k2, k3⟩, kf⟩ := cells4 HRs
      have kf0 := kf 0
      have kf1 := kf 1
      have kf2 := kf 2
      have kf3 := kf 3
      obtain ⟨s1, s2⟩ := sets4 HRs (.int .i64 fr) (.int .i64 fdp) (.bool fbad) (.int .i64 fbdd)
      have HS1 := hide s1
      have HS2 := hide s2
      have HB9 := hide (HSF.out wr HFs.out.bl)
      clear s1 s2 kf HFs HRs hFD HFD
      go_wp2_with fail
      generalize ((((wr.setCell ⟨w.heap.size + 1, 0, none⟩ (.int .i64 fr)).setCell ⟨w.heap.size + 1, 1, none⟩ (.int .i64 fdp)).setCell ⟨w.heap.size + 1, 2, none⟩ (.bool fbad)).setCell ⟨w.heap.size + 1, 3, none⟩ (.int .i64 fbdd)) = wS at *
      obtain ⟨⟨t0, t1, t2, t3⟩, _⟩ := cells4 HS1.out
      refine bodyPost_ret (v := .agg #[.int .i64 fr, .int .i64 fdp, .bool fbad, .int .i64 fbdd]) (by simp [results, Try.results13, go_sem, t0, t1, t2, t3]) rfl ⟨by rw [HFF.out]; rfl, HB9.out.trans (HS2.out.mono (by omega))⟩
end Go.Proofs.Ytfobcnhibhbbaaa.Xp
