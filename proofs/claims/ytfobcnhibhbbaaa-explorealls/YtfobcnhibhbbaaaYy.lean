/- The plain text: all ways: the walk. -/
import Derived.Test.YtfobcnhibhbbaaaYxM
import Derived.Deep.CutRange
import Derived.Deep.DeepCutAuto
namespace Go.Proofs.Ytfobcnhibhbbaaa.Xp
open Go.RowKit Go.Maps
set_option maxRecDepth 100000

theorem wordsOf_wrd (a0 a1 a2 a3 a4 : Option Addr) (c0 c1 c2 c3 c4 l1 l2 l3 l4 : Nat) (ns : List Nd) (hl : ns.length ≤ 80) (hW : Wok ns) (kind : Int) (k : Nat) (hk : k ≤ 1000000) (w : World) (hN : NodesAt w a0 ns) :
    Calls Try.prog 26 #[Mv.val ⟨a0, c0, a1, l1, c1, a2, l2, c2, a3, l3, c3, a4, l4, c4⟩ ns.length, .int .i64 kind, .int .i64 k] w fun e w' => ∃ p cap, e = .returned (.slice p (wrdK ns kind k).length cap) ∧ IntsAt w' p (wrdK ns kind k) ∧ Below w.heap.size w w' := by
  have h := wordsOf_any a0 a1 a2 a3 a4 c0 c1 c2 c3 c4 l1 l2 l3 l4 ns hl hW kind k (by omega) (by omega) w hN
  rw [wordsN_L] at h
  exact h
set_option maxHeartbeats 4000000 in
theorem waysOf_any (a0 a1 a2 a3 a4 : Option Addr) (c0 c1 c2 c3 c4 : Nat) (ns : List Nd) (is xs : List (Int × Int)) (bs hs : List Int) (hck : checkE ns is xs bs hs = 0) (hlx : xs.length ≤ 8796093022208)
    (w : World) (hMd : MdAt ⟨a0, c0, a1, is.length, c1, a2, xs.length, c2, a3, bs.length, c3, a4, hs.length, c4⟩ ns is xs bs hs w) :
    Calls Try.prog 11 #[Mv.val ⟨a0, c0, a1, is.length, c1, a2, xs.length, c2, a3, bs.length, c3, a4, hs.length, c4⟩ ns.length] w fun e w' => ∃ pN cN pB cB, e = .returned (.agg #[.slice pN (cntK ns 3) cN, .slice pB (cntK ns 3) cB]) ∧ RowsI w' pN ((List.range (cntK ns 3)).map (nxK ns xs bs hs)) ∧ RowsB w' pB ((List.range (cntK ns 3)).map (bdK ns xs bs hs)) ∧ Below w.heap.size w w' := by
  obtain ⟨i3, hi3, hz30, hz31, hz32⟩ := info_parts info3
  obtain ⟨i4, hi4, hz40, hz41, hz42⟩ := info_parts infoB
  obtain ⟨i24, hi24, hz240, hz241, hz242⟩ := info_parts info24
  obtain ⟨i59, hi59, hz590, hz591, hz592⟩ := info_parts info59
  have hW := (nodes_ok (check_zero hck).2.1).1
  have hl80 := (check_zero hck).1.1
  have HBT := hide (check_bits hck)
  have HB1 : Hid (Below w.heap.size w (((w.alloc (.cells (Mv.cells ⟨a0, c0, a1, is.length, c1, a2, xs.length, c2, a3, bs.length, c3, a4, hs.length, c4⟩ ns.length) 26)).alloc (.cells #[.slice none 0 0, .slice none 0 0] 42)).alloc (.cells #[.slice none 0 0, .slice none 0 0] 42))) := bal (bal (bal (Below.refl _ _) _) _) _
  have HBX := hide ((Box.new w ⟨a0, c0, a1, is.length, c1, a2, xs.length, c2, a3, bs.length, c3, a4, hs.length, c4⟩ ns.length).later (bal (bal (Below.refl _ _) (.cells #[.slice none 0 0, .slice none 0 0] 42)) (.cells #[.slice none 0 0, .slice none 0 0] 42)))
  have e1 : ((w.alloc (.cells (Mv.cells ⟨a0, c0, a1, is.length, c1, a2, xs.length, c2, a3, bs.length, c3, a4, hs.length, c4⟩ ns.length) 26)).alloc (.cells #[.slice none 0 0, .slice none 0 0] 42)).heap.size = w.heap.size + 1 + 1 := by simp
  have HWS : Hid (WayS (((w.alloc (.cells (Mv.cells ⟨a0, c0, a1, is.length, c1, a2, xs.length, c2, a3, bs.length, c3, a4, hs.length, c4⟩ ns.length) 26)).alloc (.cells #[.slice none 0 0, .slice none 0 0] 42)).alloc (.cells #[.slice none 0 0, .slice none 0 0] 42)) (((w.alloc (.cells (Mv.cells ⟨a0, c0, a1, is.length, c1, a2, xs.length, c2, a3, bs.length, c3, a4, hs.length, c4⟩ ns.length) 26)).alloc (.cells #[.slice none 0 0, .slice none 0 0] 42)).alloc (.cells #[.slice none 0 0, .slice none 0 0] 42)) (w.heap.size + 1 + 1) (.slice none 0 0) (.slice none 0 0) [] []) := by
    refine ⟨Below.refl _ _, ?_, World.ownsRow_nil _ _ _ _, World.ownsRow_nil _ _ _ _, fun r hr => by simp at hr, fun r hr => by simp at hr⟩
    rw [← e1]
    exact (MapKept.heap_alloc ((w.alloc (.cells (Mv.cells ⟨a0, c0, a1, is.length, c1, a2, xs.length, c2, a3, bs.length, c3, a4, hs.length, c4⟩ ns.length) 26)).alloc (.cells #[.slice none 0 0, .slice none 0 0] 42)) (.cells #[.slice none 0 0, .slice none 0 0] 42)).1
  have HRB : Hid ((((w.alloc (.cells (Mv.cells ⟨a0, c0, a1, is.length, c1, a2, xs.length, c2, a3, bs.length, c3, a4, hs.length, c4⟩ ns.length) 26)).alloc (.cells #[.slice none 0 0, .slice none 0 0] 42)).alloc (.cells #[.slice none 0 0, .slice none 0 0] 42)).heap[w.heap.size + 1]? = some (.cells #[.slice none 0 0, .slice none 0 0] 42 (0, 0))) := by
    have h1 := (MapKept.heap_alloc (w.alloc (.cells (Mv.cells ⟨a0, c0, a1, is.length, c1, a2, xs.length, c2, a3, bs.length, c3, a4, hs.length, c4⟩ ns.length) 26)) (.cells #[.slice none 0 0, .slice none 0 0] 42)).1
    rw [show (w.alloc (.cells (Mv.cells ⟨a0, c0, a1, is.length, c1, a2, xs.length, c2, a3, bs.length, c3, a4, hs.length, c4⟩ ns.length) 26)).heap.size = w.heap.size + 1 from by simp] at h1
    exact ((bal (Below.refl _ _) _).block _ (by simp)).trans h1
  have HMF := hide (fun (W : World) (hb : Below w.heap.size w W) => hMd.later hb)
  have HCK := hide hck
  clear hMd hck e1
  go_enter Try.func11, Try.ntmps11
  go_wp2_with fail
  generalize ((w.alloc (.cells (Mv.cells ⟨a0, c0, a1, is.length, c1, a2, xs.length, c2, a3, bs.length, c3, a4, hs.length, c4⟩ ns.length) 26)).alloc (.cells #[.slice none 0 0, .slice none 0 0] 42)).alloc (.cells #[.slice none 0 0, .slice none 0 0] 42) = w1 at *
  have HSF : Hid (∀ W, Below (w.heap.size + 1 + 1) w1 W → Below w.heap.size w W) := fun W hb => HB1.out.trans (hb.mono (by omega))
  have HBF : Hid (∀ W, Below (w.heap.size + 1 + 1) w1 W → Box W w.heap.size ⟨a0, c0, a1, is.length, c1, a2, xs.length, c2, a3, bs.length, c3, a4, hs.length, c4⟩ ns.length) := fun W hb => HBX.out.kept fun a v ha hv => by
    rw [World.cell?_of_block (w := w1) (hb.block a.block (by omega))]
    exact hv
  have hN3 := cnt_two hW 3
  have hN2 := cnt_two hW 2
  have hs3 := (allL_sum ns hW (sel (isK ns 3) ns.length)).1
  have hs2 := (allL_sum ns hW (sel (isK ns 2) ns.length)).1
  have HBI := hide (fun (kind : Int) (W : World) (hN : NodesAt W a0 ns) => bitsR_any ⟨a0, c0, a1, is.length, c1, a2, xs.length, c2, a3, bs.length, c3, a4, hs.length, c4⟩ ns hl80 hW kind W hN)
  have HT3 := hide (fun W => two_any (sumW ns (sel (isK ns 3) ns.length)) hs3 (by have := HBT.out.2.1; omega) W)
  have HT2 := hide (fun W => two_any (sumW ns (sel (isK ns 2) ns.length)) hs2 (by have := HBT.out.1; omega) W)
  rw [← hN3] at HT3
  rw [← hN2] at HT2
  have HW := hide hW
  clear hN3 hN2 hs3 hs2 HBX hW
  go_loopw [4] (fun i wr => ∃ (s : Nat) (vN vB : Value) (rN : List Rw) (rB : List Rb), s ≤ cntK ns 3 ∧ i = .int .i64 s ∧ Hid (WayS w1 wr (w.heap.size + 1 + 1) vN vB rN rB ∧ rN.map Rw.ns = (List.range s).map (nxK ns xs bs hs) ∧ rB.map Rb.ns = (List.range s).map (bdK ns xs bs hs))) (fun i _ => cntK ns 3 - (intOf i).toNat)
  case atStart => exact ⟨0, _, _, [], [], Nat.zero_le _, rfl, HWS.out, rfl, rfl⟩
  case round =>
    obtain ⟨s, vN, vB, rN, rB, hsl, rfl, HR⟩ := hrel
    have HBr := hide HR.out.1.bl
    obtain ⟨q0, q1, q2, q3, q4⟩ := HBF.out wr HBr.out
    have HMr := hide (HMF.out wr (HSF.out wr HBr.out))
    have HB3r := hide (HBI.out 3 wr HMr.out.nd)
    go_wp2_with fail
    refine HB3r.out.mono ?_
    rintro e W0 ⟨rfl, hbW⟩
    have HBW := hide hbW
    clear hbW q0 q1 q2 q3 q4 HB3r HMr
    go_wp2_with fail
    refine (HT3.out W0).mono ?_
    rintro e w' ⟨rfl, hw'⟩
    obtain rfl : W0 = w' := hw'.symm
    by_cases hlt : s < cntK ns 3
    · have hs1024 : s ≤ 1024 := by have := HBT.out.2.2.2; omega
      have HWY := hide (HR.out.1.later HBW.out)
      have HB0 := hide HWY.out.bl
      have HMf2 : Hid (∀ W, Below W0.heap.size W0 W → MdAt ⟨a0, c0, a1, is.length, c1, a2, xs.length, c2, a3, bs.length, c3, a4, hs.length, c4⟩ ns is xs bs hs W ∧ Box W w.heap.size ⟨a0, c0, a1, is.length, c1, a2, xs.length, c2, a3, bs.length, c3, a4, hs.length, c4⟩ ns.length) := fun W hb => ⟨(HMF.out W0 (HSF.out W0 HB0.out)).later hb, (HBF.out W0 HB0.out).later hb⟩
      go_wp2_with fail
      go_loopw [5, 6, 7] (fun v5 v6 i wq => ∃ k : Nat, k ≤ cntK ns 2 ∧ i = .int .i64 k ∧ Hid (wq.ownsRow W0.heap.size 3 1 v5 ((List.range k).map (nxE ns xs bs hs s)).length (((List.range k).map (nxE ns xs bs hs s)).map (Value.int .i64)) ∧ wq.ownsRow W0.heap.size 4 1 v6 ((List.range k).map (bdE ns xs bs hs s)).length (((List.range k).map (bdE ns xs bs hs s)).map Value.bool) ∧ Below W0.heap.size W0 wq)) (fun _ _ i _ => cntK ns 2 - (intOf i).toNat)
      case atStart => exact ⟨0, Nat.zero_le _, rfl, World.ownsRow_nil _ _ _ _, World.ownsRow_nil _ _ _ _, Below.refl _ _⟩
      case round =>
        obtain ⟨k, hk, rfl, HRk⟩ := hrel
        have HBk := hide HRk.out.2.2
        obtain ⟨q0, q1, q2, q3, q4⟩ := (HMf2.out wr HBk.out).2
        have HB2r := hide (HBI.out 2 wr (HMf2.out wr HBk.out).1.nd)
        go_wp2_with fail
        refine HB2r.out.mono ?_
        rintro e wb ⟨rfl, hbb⟩
        have HBB := hide (bthen HBk.out hbb)
        have HO5 := hide (owns_below HRk.out.1 hbb)
        have HO6 := hide (owns_below HRk.out.2.1 hbb)
        clear hbb q0 q1 q2 q3 q4 HB2r HRk HBk
        go_wp2_with fail
        refine (HT2.out wb).mono ?_
        rintro e w' ⟨rfl, hw'⟩
        obtain rfl : wb = w' := hw'.symm
        by_cases hlk : k < cntK ns 2
        · obtain ⟨q0, q1, q2, q3, q4⟩ := (HMf2.out wb HBB.out).2
          have hk64 : k ≤ 64 := by have := HBT.out.2.2.1; omega
          have HBD : Hid (Below W0.heap.size W0 wb.drew) := HBB.out.drew
          have HWO := hide (fun (kind : Int) (j : Nat) (hj : j ≤ 1000000) (W : World) (hb : Below W0.heap.size W0 W) => wordsOf_wrd a0 a1 a2 a3 a4 c0 c1 c2 c3 c4 is.length xs.length bs.length hs.length ns hl80 HW.out kind j hj W (HMf2.out W hb).1.nd)
          have HVO := hide (fun (ps pi : Option Addr) (cs ci : Nat) (W : World) (hb : Below W0.heap.size W0 W) (h1 : IntsAt W ps (wrdK ns 3 s)) (h2 : IntsAt W pi (wrdK ns 2 k)) => valuesOf_any ⟨a0, c0, a1, is.length, c1, a2, xs.length, c2, a3, bs.length, c3, a4, hs.length, c4⟩ ns hl80 (check_zero HCK.out).2.1 (wrdK ns 3 s) (wrdK ns 2 k) (wrd_ok _ _ _) (wrd_ok _ _ _) ps pi cs ci W (HMf2.out W hb).1.nd h1 h2)
          have HS1 : Hid (s ≤ 1000000) := by have := HBT.out.2.2.2; unfold Hid; omega
          have HK1 : Hid (k ≤ 1000000) := by have := HBT.out.2.2.1; unfold Hid; omega
          go_upto_region 10 with fail
          go_region_held3 (fun w' => w'.cell? ⟨w.heap.size, 0, none⟩ = some (.slice a0 ns.length c0) ∧ w'.cell? ⟨w.heap.size, 1, none⟩ = some (.slice a1 is.length c1) ∧ w'.cell? ⟨w.heap.size, 2, none⟩ = some (.slice a2 xs.length c2) ∧ w'.cell? ⟨w.heap.size, 3, none⟩ = some (.slice a3 bs.length c3) ∧ w'.cell? ⟨w.heap.size, 4, none⟩ = some (.slice a4 hs.length c4))
            (refine ⟨cell_later (w := wb.drew) ?_ q0, cell_later (w := wb.drew) ?_ q1, cell_later (w := wb.drew) ?_ q2, cell_later (w := wb.drew) ?_ q3, cell_later (w := wb.drew) ?_ q4⟩ <;> (first | exact Below.refl _ _ | exact hbA | exact bthen hbA hbB | exact bthen (bthen hbA hbB) hbC))
            (first | (go_at_call 26; refine (HWO.out _ _ (by first | exact HS1.out | exact HK1.out) _ (by first | exact HBD.out | exact bthen HBD.out hbA)).mono ?_; first | (have hold := hbA; rintro e wB ⟨pB, kB, rfl, hIB, hbB⟩; clear hold) | rintro e wA ⟨pA, kA, rfl, hIA, hbA⟩) | (go_at_call 27; refine (HVO.out _ _ _ _ _ (bthen (bthen HBD.out hbA) hbB) (hIA.later hbB) hIB).mono ?_; rintro e wC ⟨gC, rfl, hRC, hbC⟩))
          have HBC := hide (bthen (bthen (bthen HBD.out hbA) hbB) hbC)
          have HBbC : Hid (Below wb.heap.size wb wC) := bthen (bthen (bthen (Below.refl _ wb).drew hbA) hbB) hbC
          have HRC := hide hRC
          clear hIA hIB hbA hbB hbC hRC HWO HVO q0 q1 q2 q3 q4 HS1 HK1 HBD
          have hrd : readyE ns is xs bs hs (wrdK ns 3 s) (wrdK ns 2 k) = 0 := by
            unfold readyE
            rw [HCK.out, wrd_ok, wrd_ok]
            rfl
          have HHS := hide (holds_same hrd)
          have HNS := hide (next_same HCK.out (vals ns (wrdK ns 3 s) (wrdK ns 2 k) ns.length))
          have HFW := hide (follow_words (check_zero HCK.out).2.1 (pairs_zero (check_zero HCK.out).2.2.1).2.1 (wrd_ok ns 3 s) (wrd_ok ns 2 k))
          have hVl := vals_len ns (wrdK ns 3 s) (wrdK ns 2 k) ns.length
          have HNX : Hid (nxE ns xs bs hs s k = if holdsR hs (vals ns (wrdK ns 3 s) (wrdK ns 2 k) ns.length) then numL (wsK ns 3) (nextRL ns xs (vals ns (wrdK ns 3 s) (wrdK ns 2 k) ns.length)) else -1) := by
            rw [HHS.out, HNS.out]
            unfold nxE mvOf holdsI
            rw [if_pos rfl]
            rfl
          have HBDE : Hid (bdE ns xs bs hs s k = (badR bs (vals ns (wrdK ns 3 s) (wrdK ns 2 k) ns.length) && holdsR hs (vals ns (wrdK ns 3 s) (wrdK ns 2 k) ns.length))) := by
            rw [HHS.out]
            unfold bdE mvOf holdsI badR
            rw [if_pos rfl]
            rfl
          rw [← HNS.out] at HFW
          generalize vals ns (wrdK ns 3 s) (wrdK ns 2 k) ns.length = V at *
          have hin := marks_in (check_zero HCK.out).2.2.2
          have HMK := hide (marksOf_any a0 a1 a2 a3 a4 c0 c1 c2 c3 c4 is.length xs.length ns.length bs hs (check_zero HCK.out).1.2.1 (check_zero HCK.out).1.2.2 V (by omega) (fun x hx => by rw [hVl]; exact hin.1 x hx) (fun x hx => by rw [hVl]; exact hin.2 x hx) (some ⟨gC, 0, none⟩) ns.length wC (HMf2.out wC HBC.out).1.ib (HMf2.out wC HBC.out).1.ih (irow_ints HRC.out))
          rw [hVl] at HMK
          have HVL := hide hVl
          clear hVl hin hrd HHS HNS
          generalize hhold : holdsR hs V = hold at *
          generalize hbdd : badR bs V = bd at *
          go_wp2_with fail
          refine HMK.out.mono ?_
          rintro e wM ⟨rfl, hbM⟩
          have HBM := hide (bthen HBC.out hbM)
          have HBbM := hide (bthen HBbC.out hbM)
          have HRM := hide (HRC.out.later hbM)
          clear hbM HMK HBC HBbC HRC hhold hbdd
          cases hold
          case false =>
            have HTO : Hid (nxE ns xs bs hs s k = -1) := by rw [HNX.out]; rfl
            have HBE2 : Hid (bdE ns xs bs hs s k = false) := by rw [HBDE.out]; cases bd <;> rfl
            have HO5X := hide (owns_below HO5.out HBbM.out)
            have HO6X := hide (owns_below HO6.out HBbM.out)
            have HBX5 := hide HBM.out
            clear HNX HBDE HO5 HO6 HFW HRM
            cases bd
            case false =>
              have hsl5 : ((List.range k).map (nxE ns xs bs hs s)).length ≤ 64 := by have := HBT.out.2.2.1; simp; omega
              have hsl6 : ((List.range k).map (bdE ns xs bs hs s)).length ≤ 64 := by have := HBT.out.2.2.1; simp; omega
              have HSZ := hide HBX5.out.size
              generalize hL5 : (List.range k).map (nxE ns xs bs hs s) = L5 at *
              generalize hL6 : (List.range k).map (bdE ns xs bs hs s) = L6 at *
              have HL5 := hide hL5
              have HL6 := hide hL6
              clear hL5 hL6
              go_wp2_with (at_builtin; refine wpList_append_own _ rfl _ _ 24 rfl W0.heap.size 3 i3 (.int .i64 0) 1 8 Try.underlying24 hi3 hz30 hz31 hz32 rfl (by decide) _ _ _ rfl (HO5X.out.alloc _) ⟨wM.heap.size, 0, none⟩ 1 1 [.int .i64 (-1)] rfl rfl ?c1 ?c2 ?c3 ?c4 ?c5 ?_)
              case c1 =>
                intro j u hj
                match j, hj with
                | 0, hj => simp at hj; subst hj; simp [Addr.add]
              case c2 => intro u hu; simp at hu; subst hu; rfl
              case c3 => unfold maxLen; omega
              case c4 => omega
              case c5 => have := HSZ.out; simp; omega
              intro v5' wY hown5 hg5 _
              have R5 := owns_later HO5X.out hown5 hg5 HBX5.out HSZ.out
              have HO6Y := hide (owns_other (HO6X.out.alloc _) (HO5X.out.alloc _) (by decide) hg5)
              have HR5 := hide R5
              obtain ⟨g5, cp5, rfl⟩ := ownsRow_succ hown5
              clear R5 hown5 hg5 HO5X HO6X HBX5
              have HSY := hide HR5.out.2.size
              go_wp2_with (at_builtin; refine wpList_append_own _ rfl _ _ 59 rfl W0.heap.size 4 i4 (.bool false) 1 1 Try.underlying59 hi4 hz40 hz41 hz42 rfl (by decide) _ _ _ rfl (HO6Y.out.alloc _) ⟨wY.heap.size, 0, none⟩ 1 1 [.bool false] rfl rfl ?c1 ?c2 ?c3 ?c4 ?c5 ?_)
              case c1 =>
                intro j u hj
                match j, hj with
                | 0, hj => simp at hj; subst hj; simp [Addr.add]
              case c2 => intro u hu; simp at hu; subst hu; rfl
              case c3 => unfold maxLen; omega
              case c4 => omega
              case c5 => have := HSY.out; simp; omega
              intro v6' wZ hown6 hg6 _
              have HO5Z := hide (owns_other (HR5.out.1.alloc _) (HO6Y.out.alloc _) (by decide) hg6)
              have HBZ : Hid (Below W0.heap.size W0 wZ) := (HR5.out.2.alloc HSY.out _).grown hg6 (by have := HSY.out; simp; omega) (fun j hj => (HO6Y.out.lt j hj).1)
              have HO6Z := hide hown6
              obtain ⟨g6, cp6, rfl⟩ := ownsRow_succ hown6
              clear hown6 hg6 HR5 HO6Y
              go_wp2_with fail
              go_roundw
              case rel =>
                refine ⟨k + 1, by omega, by go_num, ?_, ?_, HBZ.out⟩
                · rw [upto_succ, HL5.out, HTO.out]
                  simpa using HO5Z.out
                · rw [upto_succ, HL6.out, HBE2.out]
                  simpa using HO6Z.out
              case measure => simp [intOf]; omega
            case true =>
              have hsl5 : ((List.range k).map (nxE ns xs bs hs s)).length ≤ 64 := by have := HBT.out.2.2.1; simp; omega
              have hsl6 : ((List.range k).map (bdE ns xs bs hs s)).length ≤ 64 := by have := HBT.out.2.2.1; simp; omega
              have HSZ := hide HBX5.out.size
              generalize hL5 : (List.range k).map (nxE ns xs bs hs s) = L5 at *
              generalize hL6 : (List.range k).map (bdE ns xs bs hs s) = L6 at *
              have HL5 := hide hL5
              have HL6 := hide hL6
              clear hL5 hL6
              go_wp2_with (at_builtin; refine wpList_append_own _ rfl _ _ 24 rfl W0.heap.size 3 i3 (.int .i64 0) 1 8 Try.underlying24 hi3 hz30 hz31 hz32 rfl (by decide) _ _ _ rfl (HO5X.out.alloc _) ⟨wM.heap.size, 0, none⟩ 1 1 [.int .i64 (-1)] rfl rfl ?c1 ?c2 ?c3 ?c4 ?c5 ?_)
              case c1 =>
                intro j u hj
                match j, hj with
                | 0, hj => simp at hj; subst hj; simp [Addr.add]
              case c2 => intro u hu; simp at hu; subst hu; rfl
              case c3 => unfold maxLen; omega
              case c4 => omega
              case c5 => have := HSZ.out; simp; omega
              intro v5' wY hown5 hg5 _
              have R5 := owns_later HO5X.out hown5 hg5 HBX5.out HSZ.out
              have HO6Y := hide (owns_other (HO6X.out.alloc _) (HO5X.out.alloc _) (by decide) hg5)
              have HR5 := hide R5
              obtain ⟨g5, cp5, rfl⟩ := ownsRow_succ hown5
              clear R5 hown5 hg5 HO5X HO6X HBX5
              have HSY := hide HR5.out.2.size
              go_wp2_with (at_builtin; refine wpList_append_own _ rfl _ _ 59 rfl W0.heap.size 4 i4 (.bool false) 1 1 Try.underlying59 hi4 hz40 hz41 hz42 rfl (by decide) _ _ _ rfl (HO6Y.out.alloc _) ⟨wY.heap.size, 0, none⟩ 1 1 [.bool false] rfl rfl ?c1 ?c2 ?c3 ?c4 ?c5 ?_)
              case c1 =>
                intro j u hj
                match j, hj with
                | 0, hj => simp at hj; subst hj; simp [Addr.add]
              case c2 => intro u hu; simp at hu; subst hu; rfl
              case c3 => unfold maxLen; omega
              case c4 => omega
              case c5 => have := HSY.out; simp; omega
              intro v6' wZ hown6 hg6 _
              have HO5Z := hide (owns_other (HR5.out.1.alloc _) (HO6Y.out.alloc _) (by decide) hg6)
              have HBZ : Hid (Below W0.heap.size W0 wZ) := (HR5.out.2.alloc HSY.out _).grown hg6 (by have := HSY.out; simp; omega) (fun j hj => (HO6Y.out.lt j hj).1)
              have HO6Z := hide hown6
              obtain ⟨g6, cp6, rfl⟩ := ownsRow_succ hown6
              clear hown6 hg6 HR5 HO6Y
              go_wp2_with fail
              go_roundw
              case rel =>
                refine ⟨k + 1, by omega, by go_num, ?_, ?_, HBZ.out⟩
                · rw [upto_succ, HL5.out, HTO.out]
                  simpa using HO5Z.out
                · rw [upto_succ, HL6.out, HBE2.out]
                  simpa using HO6Z.out
              case measure => simp [intOf]; omega
          case true =>
            have HNO := hide (fun (W : World) (hb : Below W0.heap.size W0 W) (hV : IntsAt W (some ⟨gC, 0, none⟩) V) => nextOf_any a0 a1 a2 a3 a4 c0 c1 c2 c3 c4 is.length bs.length hs.length ns xs hl80 hlx (next_in HCK.out) V HVL.out (some ⟨gC, 0, none⟩) ns.length W (HMf2.out W hb).1.nd (HMf2.out W hb).1.px hV)
            rw [HVL.out] at HNO
            have HNU := hide (fun (p : Option Addr) (cap : Nat) (W : World) (hb : Below W0.heap.size W0 W) (hI : IntsAt W p (nextRL ns xs V)) => numberOf_any ⟨a0, c0, a1, is.length, c1, a2, xs.length, c2, a3, bs.length, c3, a4, hs.length, c4⟩ ns hl80 HW.out 3 HBT.out.2.1 (nextRL ns xs V) (fit_words.2 HFW.out) p cap W (HMf2.out W hb).1.nd hI)
            have HTO : Hid (nxE ns xs bs hs s k = numL (wsK ns 3) (nextRL ns xs V)) := by rw [HNX.out]; rfl
            have HBE2 : Hid (bdE ns xs bs hs s k = bd) := by rw [HBDE.out]; cases bd <;> rfl
            have HNW : Hid (numL (wsK ns 3) (nextRL ns xs V) = numL ((sel (isK ns 3) ns.length).map (wdOf ns)) (nextRL ns xs V)) := rfl
            rw [← HNW.out] at HNU
            generalize nextRL ns xs V = NX at *
            generalize numL (wsK ns 3) NX = tv at *
            obtain ⟨q0, q1, q2, q3, q4⟩ := (HMf2.out wM HBM.out).2
            have HBD : Hid (Below W0.heap.size W0 wM.drew) := HBM.out.drew
            have HIM := hide ((irow_ints HRM.out).later (Below.refl _ wM).drew)
            clear HNX HBDE HFW HRM
            go_upto_region 14 with fail
            go_region_held3 (fun w' => w'.cell? ⟨w.heap.size, 0, none⟩ = some (.slice a0 ns.length c0) ∧ w'.cell? ⟨w.heap.size, 1, none⟩ = some (.slice a1 is.length c1) ∧ w'.cell? ⟨w.heap.size, 2, none⟩ = some (.slice a2 xs.length c2) ∧ w'.cell? ⟨w.heap.size, 3, none⟩ = some (.slice a3 bs.length c3) ∧ w'.cell? ⟨w.heap.size, 4, none⟩ = some (.slice a4 hs.length c4))
              (refine ⟨cell_later (w := wM.drew) ?_ q0, cell_later (w := wM.drew) ?_ q1, cell_later (w := wM.drew) ?_ q2, cell_later (w := wM.drew) ?_ q3, cell_later (w := wM.drew) ?_ q4⟩ <;> (first | exact Below.refl _ _ | exact hbA | exact bthen hbA hbB))
              (first | (go_at_call 29; refine (HNO.out _ HBD.out HIM.out).mono ?_; rintro e wA ⟨pA, kA, rfl, hIA, hbA⟩) | (go_at_call 12; refine (HNU.out _ _ _ (bthen HBD.out hbA) hIA).mono ?_; rintro e wB ⟨rfl, hbB⟩))
            have HBX5 := hide (bthen (bthen HBD.out hbA) hbB)
            have HBbB : Hid (Below wb.heap.size wb wB) := bthen (bthen HBbM.out.drew hbA) hbB
            have HO5X := hide (owns_below HO5.out HBbB.out)
            have HO6X := hide (owns_below HO6.out HBbB.out)
            clear hbA hbB hIA HNO HNU q0 q1 q2 q3 q4 HBM HBbM HBbB HO5 HO6 HBD HIM
            cases bd
            case false =>
              have hsl5 : ((List.range k).map (nxE ns xs bs hs s)).length ≤ 64 := by have := HBT.out.2.2.1; simp; omega
              have hsl6 : ((List.range k).map (bdE ns xs bs hs s)).length ≤ 64 := by have := HBT.out.2.2.1; simp; omega
              have HSZ := hide HBX5.out.size
              generalize hL5 : (List.range k).map (nxE ns xs bs hs s) = L5 at *
              generalize hL6 : (List.range k).map (bdE ns xs bs hs s) = L6 at *
              have HL5 := hide hL5
              have HL6 := hide hL6
              clear hL5 hL6
              go_wp2_with (at_builtin; refine wpList_append_own _ rfl _ _ 24 rfl W0.heap.size 3 i3 (.int .i64 0) 1 8 Try.underlying24 hi3 hz30 hz31 hz32 rfl (by decide) _ _ _ rfl (HO5X.out.alloc _) ⟨wB.heap.size, 0, none⟩ 1 1 [.int .i64 tv] rfl rfl ?c1 ?c2 ?c3 ?c4 ?c5 ?_)
              case c1 =>
                intro j u hj
                match j, hj with
                | 0, hj => simp at hj; subst hj; simp [Addr.add]
              case c2 => intro u hu; simp at hu; subst hu; rfl
              case c3 => unfold maxLen; omega
              case c4 => omega
              case c5 => have := HSZ.out; simp; omega
              intro v5' wY hown5 hg5 _
              have R5 := owns_later HO5X.out hown5 hg5 HBX5.out HSZ.out
              have HO6Y := hide (owns_other (HO6X.out.alloc _) (HO5X.out.alloc _) (by decide) hg5)
              have HR5 := hide R5
              obtain ⟨g5, cp5, rfl⟩ := ownsRow_succ hown5
              clear R5 hown5 hg5 HO5X HO6X HBX5
              have HSY := hide HR5.out.2.size
              go_wp2_with (at_builtin; refine wpList_append_own _ rfl _ _ 59 rfl W0.heap.size 4 i4 (.bool false) 1 1 Try.underlying59 hi4 hz40 hz41 hz42 rfl (by decide) _ _ _ rfl (HO6Y.out.alloc _) ⟨wY.heap.size, 0, none⟩ 1 1 [.bool false] rfl rfl ?c1 ?c2 ?c3 ?c4 ?c5 ?_)
              case c1 =>
                intro j u hj
                match j, hj with
                | 0, hj => simp at hj; subst hj; simp [Addr.add]
              case c2 => intro u hu; simp at hu; subst hu; rfl
              case c3 => unfold maxLen; omega
              case c4 => omega
              case c5 => have := HSY.out; simp; omega
              intro v6' wZ hown6 hg6 _
              have HO5Z := hide (owns_other (HR5.out.1.alloc _) (HO6Y.out.alloc _) (by decide) hg6)
              have HBZ : Hid (Below W0.heap.size W0 wZ) := (HR5.out.2.alloc HSY.out _).grown hg6 (by have := HSY.out; simp; omega) (fun j hj => (HO6Y.out.lt j hj).1)
              have HO6Z := hide hown6
              obtain ⟨g6, cp6, rfl⟩ := ownsRow_succ hown6
              clear hown6 hg6 HR5 HO6Y
              go_wp2_with fail
              go_roundw
              case rel =>
                refine ⟨k + 1, by omega, by go_num, ?_, ?_, HBZ.out⟩
                · rw [upto_succ, HL5.out, HTO.out]
                  simpa using HO5Z.out
                · rw [upto_succ, HL6.out, HBE2.out]
                  simpa using HO6Z.out
              case measure => simp [intOf]; omega
            case true =>
              have hsl5 : ((List.range k).map (nxE ns xs bs hs s)).length ≤ 64 := by have := HBT.out.2.2.1; simp; omega
              have hsl6 : ((List.range k).map (bdE ns xs bs hs s)).length ≤ 64 := by have := HBT.out.2.2.1; simp; omega
              have HSZ := hide HBX5.out.size
              generalize hL5 : (List.range k).map (nxE ns xs bs hs s) = L5 at *
              generalize hL6 : (List.range k).map (bdE ns xs bs hs s) = L6 at *
              have HL5 := hide hL5
              have HL6 := hide hL6
              clear hL5 hL6
              go_wp2_with (at_builtin; refine wpList_append_own _ rfl _ _ 24 rfl W0.heap.size 3 i3 (.int .i64 0) 1 8 Try.underlying24 hi3 hz30 hz31 hz32 rfl (by decide) _ _ _ rfl (HO5X.out.alloc _) ⟨wB.heap.size, 0, none⟩ 1 1 [.int .i64 tv] rfl rfl ?c1 ?c2 ?c3 ?c4 ?c5 ?_)
              case c1 =>
                intro j u hj
                match j, hj with
                | 0, hj => simp at hj; subst hj; simp [Addr.add]
              case c2 => intro u hu; simp at hu; subst hu; rfl
              case c3 => unfold maxLen; omega
              case c4 => omega
              case c5 => have := HSZ.out; simp; omega
              intro v5' wY hown5 hg5 _
              have R5 := owns_later HO5X.out hown5 hg5 HBX5.out HSZ.out
              have HO6Y := hide (owns_other (HO6X.out.alloc _) (HO5X.out.alloc _) (by decide) hg5)
              have HR5 := hide R5
              obtain ⟨g5, cp5, rfl⟩ := ownsRow_succ hown5
              clear R5 hown5 hg5 HO5X HO6X HBX5
              have HSY := hide HR5.out.2.size
              go_wp2_with (at_builtin; refine wpList_append_own _ rfl _ _ 59 rfl W0.heap.size 4 i4 (.bool false) 1 1 Try.underlying59 hi4 hz40 hz41 hz42 rfl (by decide) _ _ _ rfl (HO6Y.out.alloc _) ⟨wY.heap.size, 0, none⟩ 1 1 [.bool true] rfl rfl ?c1 ?c2 ?c3 ?c4 ?c5 ?_)
              case c1 =>
                intro j u hj
                match j, hj with
                | 0, hj => simp at hj; subst hj; simp [Addr.add]
              case c2 => intro u hu; simp at hu; subst hu; rfl
              case c3 => unfold maxLen; omega
              case c4 => omega
              case c5 => have := HSY.out; simp; omega
              intro v6' wZ hown6 hg6 _
              have HO5Z := hide (owns_other (HR5.out.1.alloc _) (HO6Y.out.alloc _) (by decide) hg6)
              have HBZ : Hid (Below W0.heap.size W0 wZ) := (HR5.out.2.alloc HSY.out _).grown hg6 (by have := HSY.out; simp; omega) (fun j hj => (HO6Y.out.lt j hj).1)
              have HO6Z := hide hown6
              obtain ⟨g6, cp6, rfl⟩ := ownsRow_succ hown6
              clear hown6 hg6 HR5 HO6Y
              go_wp2_with fail
              go_roundw
              case rel =>
                refine ⟨k + 1, by omega, by go_num, ?_, ?_, HBZ.out⟩
                · rw [upto_succ, HL5.out, HTO.out]
                  simpa using HO5Z.out
                · rw [upto_succ, HL6.out, HBE2.out]
                  simpa using HO6Z.out
              case measure => simp [intOf]; omega
        · obtain rfl : k = cntK ns 2 := by omega
          have HNr := hide HO5.out
          have HBr2 := hide HO6.out
          rw [← nxK_is] at HNr
          rw [← bdK_is] at HBr2
          obtain ⟨p5, k5, e5, _⟩ := owns_ints HNr.out
          obtain ⟨p6, k6, e6, _⟩ := owns_bools HBr2.out
          subst e5 e6
          have HWZ := hide (HWY.out.later HBB.out)
          have ob0 : wb.cell? ⟨w.heap.size + 1 + 1, 0, none⟩ = some vN := by rw [Lib.cell_of_heap HWZ.out.ob]; rfl
          have hlN : rN.length = s := by have := congrArg List.length HR.out.2.1; simpa using this
          have hlB : rB.length = s := by have := congrArg List.length HR.out.2.2; simpa using this
          have HLN := hide hlN
          have HLB := hide hlB
          have HSB : Hid (w.heap.size + 1 + 1 + 1 ≤ wb.heap.size) := HWZ.out.lt
          have HRR := hide HR.out.2
          obtain ⟨N5, hN5⟩ : ∃ N5, nxK ns xs bs hs s = N5 := ⟨_, rfl⟩
          obtain ⟨N6, hN6⟩ : ∃ N6, bdK ns xs bs hs s = N6 := ⟨_, rfl⟩
          rw [hN5] at HNr ⊢
          rw [hN6] at HBr2 ⊢
          have HN5 := hide hN5
          have HN6 := hide hN6
          clear HO5 HO6 hlN hlB hN5 hN6 HR HWY
          go_wp2_with (at_builtin; refine wpList_append_own _ rfl _ _ 39 rfl (w.heap.size + 1 + 1 + 1) 24 i24 (.slice none 0 0) 1 24 Try.underlying39 hi24 hz240 hz241 hz242 rfl (by decide) _ _ _ rfl (HWZ.out.oN.alloc _) ⟨wb.heap.size, 0, none⟩ 1 1 [.slice p5 N5.length k5] rfl rfl ?c1 ?c2 ?c3 ?c4 ?c5 ?_)
          case c1 =>
            intro j u hj
            match j, hj with
            | 0, hj => simp at hj; subst hj; simp [Addr.add]
          case c2 => intro u hu; simp at hu; subst hu; rfl
          case c3 => have := HLN.out; unfold maxLen; omega
          case c4 => have := HLN.out; omega
          case c5 => have := HSB.out; simp; omega
          intro vN' wY hownN hgN _
          have hput := HWZ.out.putN (r := ⟨p5, N5, k5⟩) (owns_base HNr.out (Nat.zero_le _)) hownN hgN
          have hbY : wY.heap[w.heap.size + 1 + 1]? = some (.cells #[vN, vB] 42 (0, 0)) := by
            have hA := HWZ.out.later (bal (Below.refl _ wb) (.cells #[.slice p5 N5.length k5] 24))
            exact (hgN.block _ hA.lt (fun e => by have := (hA.oN.lt _ e.symm).1; omega)).trans hA.ob
          have y0 : wY.cell? ⟨w.heap.size + 1 + 1, 0, none⟩ = some vN := by rw [Lib.cell_of_heap hbY]; rfl
          have y1 : wY.cell? ⟨w.heap.size + 1 + 1, 1, none⟩ = some vB := by rw [Lib.cell_of_heap hbY]; rfl
          have fy0 : wY.frozen? ⟨w.heap.size + 1 + 1, 0, none⟩ = false := Lib.frozen_of_heap hbY 0
          have fy1 : wY.frozen? ⟨w.heap.size + 1 + 1, 1, none⟩ = false := Lib.frozen_of_heap hbY 1
          have HP := hide hput
          have HB6 : Hid ((wY.setCell ⟨w.heap.size + 1 + 1, 0, none⟩ vN').ownsRow 0 4 1 (.slice p6 N6.length k6) N6.length (N6.map Value.bool)) := HWZ.out.keepN hgN (owns_base HBr2.out (Nat.zero_le _)) (by decide) (by decide)
          obtain ⟨gN, cN, rfl⟩ := ownsRow_succ hownN
          clear hownN hgN hput ob0 HWZ hbY
          have HSY : Hid (w.heap.size + 1 + 1 + 1 ≤ (wY.setCell ⟨w.heap.size + 1 + 1, 0, none⟩ (.slice (some ⟨gN, 0, none⟩) (rN.length + 1) cN)).heap.size) := HP.out.lt
          go_wp2_with (at_builtin; refine wpList_append_own _ rfl _ _ 40 rfl (w.heap.size + 1 + 1 + 1) 59 i59 (.slice none 0 0) 1 24 Try.underlying40 hi59 hz590 hz591 hz592 rfl (by decide) _ _ _ rfl (HP.out.oB.alloc _) ⟨wY.heap.size, 0, none⟩ 1 1 [.slice p6 N6.length k6] rfl rfl ?c1 ?c2 ?c3 ?c4 ?c5 ?_)
          case c1 =>
            intro j u hj
            match j, hj with
            | 0, hj =>
              simp at hj
              subst hj
              have e := cell_new1 (wY.setCell ⟨w.heap.size + 1 + 1, 0, none⟩ (.slice (some ⟨gN, 0, none⟩) (rN.length + 1) cN)) (.slice p6 N6.length k6) 59
              rw [show (wY.setCell ⟨w.heap.size + 1 + 1, 0, none⟩ (.slice (some ⟨gN, 0, none⟩) (rN.length + 1) cN)).heap.size = wY.heap.size from by simp] at e
              simpa [Addr.add] using e
          case c2 => intro u hu; simp at hu; subst hu; rfl
          case c3 => have := HLB.out; unfold maxLen; omega
          case c4 => have := HLB.out; omega
          case c5 => have := HSY.out; simp at this ⊢; omega
          intro vB' wZ hownB hgB _
          have hput := HP.out.putB (r := ⟨p6, N6, k6⟩) HB6.out hownB hgB
          have hbZ : wZ.heap[w.heap.size + 1 + 1]? = some (.cells #[.slice (some ⟨gN, 0, none⟩) (rN.length + 1) cN, vB] 42 (0, 0)) := by
            have hA := HP.out.later (bal (Below.refl _ _) (.cells #[.slice p6 N6.length k6] 59))
            exact (hgB.block _ hA.lt (fun e => by have := (hA.oB.lt _ e.symm).1; omega)).trans hA.ob
          have z1 : wZ.cell? ⟨w.heap.size + 1 + 1, 1, none⟩ = some vB := by rw [Lib.cell_of_heap hbZ]; rfl
          have fz1 : wZ.frozen? ⟨w.heap.size + 1 + 1, 1, none⟩ = false := Lib.frozen_of_heap hbZ 1
          have HQ := hide hput
          obtain ⟨gB, cB, rfl⟩ := ownsRow_succ hownB
          clear hownB hgB hput HP hbZ y0 y1 fy0 fy1 HB6
          go_wp2_with fail
          go_roundw
          case rel =>
            refine ⟨s + 1, _, _, rN ++ [⟨p5, N5, k5⟩], rB ++ [⟨p6, N6, k6⟩], by omega, by go_num, HQ.out, ?_, ?_⟩
            · rw [List.map_append, HRR.out.1, upto_succ, HN5.out]; rfl
            · rw [List.map_append, HRR.out.2, upto_succ, HN6.out]; rfl
          case measure => simp [intOf]; omega
    · obtain rfl : s = cntK ns 3 := by omega
      have HWY := hide (HR.out.1.later HBW.out)
      have hrB := (HWY.out.bl.block (w.heap.size + 1) (by omega)).trans HRB.out
      have hdn := HWY.out.done (u0 := vN) (u1 := vB) hrB
      obtain ⟨⟨pN, kN, eN, hRN⟩, pB, kB, eB, hRB⟩ := hdn
      have hlN : rN.length = cntK ns 3 := by have := congrArg List.length HR.out.2.1; simpa using this
      have hlB : rB.length = cntK ns 3 := by have := congrArg List.length HR.out.2.2; simpa using this
      rw [hlN] at eN
      rw [hlB] at eB
      subst eN eB
      rw [HR.out.2.1] at hRN
      rw [HR.out.2.2] at hRB
      have ho0 : W0.cell? ⟨w.heap.size + 1 + 1, 0, none⟩ = _ := Lib.cell_of_heap HWY.out.ob 0
      have ho1 : W0.cell? ⟨w.heap.size + 1 + 1, 1, none⟩ = _ := Lib.cell_of_heap HWY.out.ob 1
      have hr0 : W0.cell? ⟨w.heap.size + 1, 0, none⟩ = _ := Lib.cell_of_heap hrB 0
      have hr1 : W0.cell? ⟨w.heap.size + 1, 1, none⟩ = _ := Lib.cell_of_heap hrB 1
      have hf0 := Lib.frozen_of_heap hrB 0
      have hf1 := Lib.frozen_of_heap hrB 1
      simp only [List.getElem?_toArray, List.getElem?_cons_zero, List.getElem?_cons_succ] at ho0 ho1 hr0 hr1
      have h1 := heap_setCell_same _ (w.heap.size + 1) 0 _ _ (.slice pN (cntK ns 3) kN) hrB
      simp only [List.setIfInBounds_toArray, List.set_cons_zero] at h1
      have h2 := heap_setCell_same _ (w.heap.size + 1) 1 _ _ (.slice pB (cntK ns 3) kB) h1
      simp only [List.setIfInBounds_toArray, List.set_cons_zero, List.set_cons_succ] at h2
      have HFIN : Hid (RowsI ((W0.setCell ⟨w.heap.size + 1, 0, none⟩ (.slice pN (cntK ns 3) kN)).setCell ⟨w.heap.size + 1, 1, none⟩ (.slice pB (cntK ns 3) kB)) pN ((List.range (cntK ns 3)).map (nxK ns xs bs hs)) ∧ RowsB ((W0.setCell ⟨w.heap.size + 1, 0, none⟩ (.slice pN (cntK ns 3) kN)).setCell ⟨w.heap.size + 1, 1, none⟩ (.slice pB (cntK ns 3) kB)) pB ((List.range (cntK ns 3)).map (bdK ns xs bs hs))) := ⟨hRN, hRB⟩
      have HBE : Hid (Below w.heap.size w ((W0.setCell ⟨w.heap.size + 1, 0, none⟩ (.slice pN (cntK ns 3) kN)).setCell ⟨w.heap.size + 1, 1, none⟩ (.slice pB (cntK ns 3) kB))) := ((HSF.out W0 HWY.out.bl).setCell (p := ⟨w.heap.size + 1, 0, none⟩) (Nat.le_succ _) _).setCell (p := ⟨w.heap.size + 1, 1, none⟩) (Nat.le_succ _) _
      have HH2 := hide h2
      clear h1 h2 hrB hRN hRB hlN hlB HR HWY
      go_wp2_with fail
      have t0 := Lib.cell_of_heap HH2.out 0
      have t1 := Lib.cell_of_heap HH2.out 1
      simp only [List.getElem?_toArray, List.getElem?_cons_zero, List.getElem?_cons_succ] at t0 t1
      generalize (W0.setCell ⟨w.heap.size + 1, 0, none⟩ (.slice pN (cntK ns 3) kN)).setCell ⟨w.heap.size + 1, 1, none⟩ (.slice pB (cntK ns 3) kB) = wS at *
      refine bodyPost_ret (v := .agg #[.slice pN (cntK ns 3) kN, .slice pB (cntK ns 3) kB]) (by simp [results, Try.results11, go_sem, t0, t1]) rfl ⟨pN, kN, pB, kB, rfl, HFIN.out.1, HFIN.out.2, HBE.out⟩
end Go.Proofs.Ytfobcnhibhbbaaa.Xp
