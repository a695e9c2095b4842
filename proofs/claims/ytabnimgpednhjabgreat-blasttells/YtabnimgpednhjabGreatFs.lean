import Derived.Test.YtabnimgpednhjabGreatFrM
import Derived.Deep.RegionHeld3
import Derived.Deep.CutRange
namespace Go.Proofs.YtabnimgpednhjabGreat
open Go.RowKit Go.Maps
set_option maxRecDepth 100000
abbrev lsOf (pi pn0 pn pb ph : Option Addr) (IL NX : List Int) (NL BL HL : List Int) : List Gg.Lst := [(ph, HL), (pb, BL), (pn, NL), (pn0, NX), (pi, IL)]
structure Said (E : List Bool → List Int → Prop) (ns : List Nd) (n : Nat) (qs : Gg.Gr) (NX bs hs : List Int) (NL BL HL : List Int) : Prop where
 ok : Gg.chkE n qs = 0
 wf : Gg.WfP qs
 nl : Gg.TF E ns n qs NX NL
 bl : Gg.TF E ns n qs bs BL
 hl : Gg.TF E ns n qs hs HL
set_option maxHeartbeats 16000000 in
theorem blastN_any (a0 a1 a2 a3 a4 : Option Addr) (c0 c1 c2 c3 c4 : Nat) (ns : List Nd) (is xs : List (Int × Int)) (bs hs : List Int) (hck : checkE ns is xs bs hs = 0) (hli : is.length ≤ 8796093022208) (hlx : xs.length ≤ 8796093022208)
   (E : List Bool → List Int → Prop) (he : Gg.EnvOk E ns (Gg.inT ns (Gg.inL ns).length)) (hE : ∀ bs vs, E bs vs → ∀ t, t < (Gg.inL ns).length → ((Gg.numB (fun j => bs.getD (Gg.inT ns t + j) false) (wdOf ns ((Gg.inL ns).getD t 0)).toNat : Nat) : Int) = vs.getD ((Gg.inL ns).getD t 0).toNat 0)
   (hT : Gg.inT ns (Gg.inL ns).length ≤ 16) (hpx : ∀ (i : Nat) (h : i < xs.length), 0 ≤ xs[i].1 ∧ xs[i].1 < 80 ∧ 0 ≤ xs[i].2 ∧ xs[i].2 < 80) (hnx : ∀ x ∈ (sel (isK ns 3) ns.length).map (lastV xs), 0 ≤ x ∧ x < ns.length) (w : World)
   (hN : NodesAt w a0 ns) (hI : PairsAt w a1 is) (hX : PairsAt w a2 xs) (hBs : IntsAt w a3 bs) (hHs : IntsAt w a4 hs) :
   Calls Tryz.prog 8 #[Mv.val ⟨a0, c0, a1, is.length, c1, a2, xs.length, c2, a3, bs.length, c3, a4, hs.length, c4⟩ ns.length] w fun e w' => ∃ (pv : Option Addr) (cv : Nat) (qs : Gg.Gr) (pi : Option Addr) (ci : Nat) (pn : Option Addr) (cn : Nat) (NL : List Int) (pb : Option Addr) (cb : Nat) (BL : List Int) (ph : Option Addr) (ch : Nat) (HL : List Int),
     e = .returned (.tuple #[Gg.circ (Gg.inT ns (Gg.inL ns).length : Nat) pv qs.length cv (sumW ns (sel (isK ns 2) ns.length)) (sumW ns (sel (isK ns 3) ns.length)) ⟨pi, iniL ns is (sel (isK ns 3) ns.length).length, ci⟩ ⟨pn, NL, cn⟩ ⟨pb, BL, cb⟩ ⟨ph, HL, ch⟩, .int .i64 0]) ∧ PairsAt w' pv qs ∧ IntsAt w' pi (iniL ns is (sel (isK ns 3) ns.length).length) ∧ IntsAt w' pn NL ∧ IntsAt w' pb BL ∧ IntsAt w' ph HL ∧ Said E ns (Gg.inT ns (Gg.inL ns).length) qs ((sel (isK ns 3) ns.length).map (lastV xs)) bs hs NL BL HL ∧ Below w.heap.size w w' := by
 obtain ⟨⟨hl80, hlb8, hlh8⟩, hnn, hpp, hmk⟩ := check_zero hck
 obtain ⟨hinB, hinH⟩ := marks_in hmk
 have hW := (nodes_ok hnn).1
 have hWk : ∀ k, k < ns.length → 1 ≤ wdOf ns k ∧ wdOf ns k ≤ 8 := fun k hk => by
   have hq := firstN_zero.1 hnn k hk
   rw [nodeAtE_at hk] at hq
   obtain ⟨hw, _⟩ := node_zero hq
   unfold wdOf
   rw [Int.toNat_natCast, List.getElem?_eq_getElem hk]
   exact hw
 have hsl := sel_len (isK ns 3) ns.length
 have HCK : Hid (∀ (w' : World), Below w.heap.size w w' → Calls Tryz.prog 31 #[Mv.val ⟨a0, c0, a1, is.length, c1, a2, xs.length, c2, a3, bs.length, c3, a4, hs.length, c4⟩ ns.length] w' fun e w'' => e = .returned (.int .i64 0) ∧ Below w'.heap.size w' w'') := fun w' hb => by
   have h := check_any a0 a1 a2 a3 a4 c0 c1 c2 c3 c4 ns is xs bs hs (by unfold maxLen; omega) hli hlx (by unfold maxLen; omega) (by unfold maxLen; omega) w' (hN.later hb) (hI.later hb) (hX.later hb) (hBs.later hb) (hHs.later hb)
   rw [hck] at h
   exact h
 have HBE := hide (fun (w' : World) (hb : Below w.heap.size w w') => begunN_any a0 a1 a2 a3 a4 c0 c1 c2 c3 c4 ns is xs bs hs hck hli hlx (by unfold maxLen; omega) (by unfold maxLen; omega) w' (hN.later hb) (hI.later hb) (hX.later hb) (hBs.later hb) (hHs.later hb))
 have HST := hide (fun (w' : World) (hb : Below w.heap.size w w') => Gg.startN_any ⟨a0, c0, a1, is.length, c1, a2, xs.length, c2, a3, bs.length, c3, a4, hs.length, c4⟩ ns hl80 hWk hT w' (hN.later hb))
 have HKZ := hide (fun (w2 w4 wp : World) (D DM : DataW Unit) (M B : Nat) (v : Value) (hb : Below w.heap.size w w2) => Gg.start_kz (E := E) (a0 := a0) (c0 := c0) (w := w2) (w4 := w4) (wp := wp) (D := D) (DM := DM) (M := M) (B := B) (v := v) hE hWk hT (hN.later hb))
 have HNX : Hid (∀ (w' : World), Below w.heap.size w w' → Calls Tryz.prog 36 #[.agg #[.slice a0 ns.length c0, .slice a1 is.length c1, .slice a2 xs.length c2, .slice a3 bs.length c3, .slice a4 hs.length c4]] w' fun e w'' => ∃ p cap, e = .returned (.slice p ((sel (isK ns 3) ns.length).map (lastV xs)).length cap) ∧ IntsAt w'' p ((sel (isK ns 3) ns.length).map (lastV xs)) ∧ Below w'.heap.size w' w'' ∧ ∀ b off, p = some ⟨b, off, none⟩ → w'.heap.size ≤ b) := fun w' hb => nextOnes2_any a0 a1 a2 a3 a4 c0 c1 c2 c3 c4 is.length bs.length hs.length ns xs hl80 hlx hpx w' (hN.later hb) (hX.later hb)
 have HB2 := hide (fun (w' : World) (hb : Below w.heap.size w w') => bitsOf_any a0 c0 ns hl80 hW 2 w' (hN.later hb))
 have HB3 := hide (fun (w' : World) (hb : Below w.heap.size w w') => bitsOf_any a0 c0 ns hl80 hW 3 w' (hN.later hb))
 have HINX : Hid (((sel (isK ns 3) ns.length).map (lastV xs)).length ≤ 1000 ∧ ∀ x ∈ (sel (isK ns 3) ns.length).map (lastV xs), 0 ≤ x ∧ x < ns.length) := ⟨by simp; omega, hnx⟩
 have HAN := hide (fun (u : World) (base Pb M B Mb : Nat) (v : Value) (ps : Gg.Gr) (D : DataW Unit) (ls : List Gg.Lst) (pn : Option Addr) (cn : Nat) (h : Gg.Ey E ns ⟨a0, c0, a1, is.length, c1, a2, xs.length, c2, a3, bs.length, c3, a4, hs.length, c4⟩ w u base Pb M B Mb v (Gg.inT ns (Gg.inL ns).length) ps D ((pn, (sel (isK ns 3) ns.length).map (lastV xs)) :: ls)) => Gg.all_new he hl80 hnn cn h HINX.out.1 HINX.out.2)
 have HAB := hide (fun (u : World) (base Pb M B Mb : Nat) (v : Value) (ps : Gg.Gr) (D : DataW Unit) (ls : List Gg.Lst) (h : Gg.Ey E ns ⟨a0, c0, a1, is.length, c1, a2, xs.length, c2, a3, bs.length, c3, a4, hs.length, c4⟩ w u base Pb M B Mb v (Gg.inT ns (Gg.inL ns).length) ps D ls) => Gg.all_arg he hl80 hnn c3 hBs h (by omega) hinB)
 have HAH := hide (fun (u : World) (base Pb M B Mb : Nat) (v : Value) (ps : Gg.Gr) (D : DataW Unit) (ls : List Gg.Lst) (h : Gg.Ey E ns ⟨a0, c0, a1, is.length, c1, a2, xs.length, c2, a3, bs.length, c3, a4, hs.length, c4⟩ w u base Pb M B Mb v (Gg.inT ns (Gg.inL ns).length) ps D ls) => Gg.all_arg he hl80 hnn c4 hHs h (by omega) hinH)
 have HE := hide he
 have hB0 : Below w.heap.size w ((w.alloc (.cells (Mv.cells ⟨a0, c0, a1, is.length, c1, a2, xs.length, c2, a3, bs.length, c3, a4, hs.length, c4⟩ ns.length) 35)).alloc newC) := bal (bal (Below.refl _ _) _) _
 have hln : ns.length ≤ 80 := hl80
 clear hN hI hX hBs hHs hck hnn hpp hmk hW hWk hinB hinH he hE hT hnx hpx hsl HINX
 generalize (sel (isK ns 3) ns.length).map (lastV xs) = NX at *
 generalize iniL ns is (sel (isK ns 3) ns.length).length = IL at *
 generalize Gg.inT ns (Gg.inL ns).length = n at *
 generalize sumW ns (sel (isK ns 2) ns.length) = s2 at *
 generalize sumW ns (sel (isK ns 3) ns.length) = s3 at *
 go_enter Tryz.func8, Tryz.ntmps8
 go_wp2_with fail
 refine (HCK.out _ hB0).mono ?_
 rintro e w1 ⟨rfl, hb1⟩
 have x1 : Box w1 w.heap.size ⟨a0, c0, a1, is.length, c1, a2, xs.length, c2, a3, bs.length, c3, a4, hs.length, c4⟩ ns.length := ⟨cell_later hb1 (by simp [go_sem]), cell_later hb1 (by simp [go_sem]), cell_later hb1 (by simp [go_sem]), cell_later hb1 (by simp [go_sem]), cell_later hb1 (by simp [go_sem])⟩
 have HR1 := hide (ResS.later (h := w.heap.size + 1) (by simpa using res_new (w.alloc (.cells (Mv.cells ⟨a0, c0, a1, is.length, c1, a2, xs.length, c2, a3, bs.length, c3, a4, hs.length, c4⟩ ns.length) 35))) hb1)
 obtain ⟨q0, q1, q2, q3, q4⟩ := id x1
 have X1 := hide x1
 have HBa := hide (bthen hB0 hb1)
 have hsa : w.heap.size + 2 ≤ w1.heap.size := by have := hb1.size; simp at this; omega
 clear hb1 hB0 HCK x1
 simp only at q0 q1 q2 q3 q4
 go_wp2_with fail
 refine (HBE.out _ HBa.out).mono ?_
 rintro e w2 ⟨pi, ci, rfl, hIi, hfi, hb2⟩
 have HR2 := hide (HR1.out.later hb2)
 have HI2 := hide hIi
 have HFI := hide hfi
 have HBb := hide (bthen HBa.out hb2)
 have hsb := hb2.size
 have X2 := hide (X1.out.later hb2)
 clear q0 q1 q2 q3 q4 hIi hb2 HBE HBa HR1 X1 hfi
 obtain ⟨q0, q1, q2, q3, q4⟩ := id X2.out
 simp only at q0 q1 q2 q3 q4
 go_wp2_with fail
 refine (HST.out _ HBb.out).mono ?_
 rintro e w3 ⟨D, w4, M, B, v, rfl, hs4, hw3, wp, hbp, hszp, hsp, hb4, hmk, DM, hmo, hmi⟩
 obtain ⟨hkz, hb3⟩ := HKZ.out _ _ _ _ _ _ _ _ HBb.out hs4 hsp hb4 hmk hmo hmi
 rw [← hw3] at hkz hb3
 have E3 : Hid (Gg.Ey E ns ⟨a0, c0, a1, is.length, c1, a2, xs.length, c2, a3, bs.length, c3, a4, hs.length, c4⟩ w w3 w2.heap.size (w2.heap.size + 2) M B (w2.heap.size + 1) v n [] D [(pi, IL)]) := by
   refine ⟨X2.out.later hb3, HR2.out.later hb3, hkz, Nat.zero_le _, fun x hx => ?_, bthen HBb.out hb3, by omega⟩
   obtain rfl := List.mem_singleton.1 hx
   have hla := Gg.la_arg HI2.out hb3 (Nat.le_refl _) hkz.bs.bm.mem hkz.hM
   exact ⟨hla.1.1, fun b off e h0 => ⟨by have := HFI.out b off e; omega, hla.1.2 b off e h0, hla.2 h0 b off e⟩⟩
 have hbD : Below w3.heap.size w3 w3.drew := (Below.refl _ w3).drew
 have ED := hide (E3.out.later HE.out hbD)
 have EA : Hid (Gg.Ey E ns ⟨a0, c0, a1, is.length, c1, a2, xs.length, c2, a3, bs.length, c3, a4, hs.length, c4⟩ w (w3.alloc newC).drew w2.heap.size (w2.heap.size + 2) M B (w2.heap.size + 1) v n [] D [(pi, IL)]) := (E3.out.alloc HE.out newC).later HE.out (Below.refl _ (w3.alloc newC)).drew
 have RA : Hid (Gg.Rb (w3.alloc newC).drew w2.heap.size M B (w2.heap.size + 1) v (w2.heap.size + 2) w3.heap.size [(pi, IL)]) := (E3.out.rb).later (Below.refl _ (w3.alloc newC)).drew
 have hbp : w2.heap.size ≤ w2.heap.size + 2 := by omega
 clear q0 q1 q2 q3 q4 hb3 HST HBb HR2 X2 hkz HI2 HFI E3 hs4 hw3 hbp hszp hsp hb4 hmk hmo hmi HKZ
 generalize w2.heap.size = base at *
 obtain ⟨q0, q1, q2, q3, q4⟩ := ED.out.xs
 simp only at q0 q1 q2 q3 q4
 go_upto_region 8 with fail
 go_cut [8] from 9 to 54 (fun s wx => ∃ blk, s = .pointer (some ⟨blk, 0, none⟩) ∧ ∃ (v' : Value) (qs : Gg.Gr) (pn0 : Option Addr) (pn : Option Addr) (cn : Nat) (NL : List Int) (pb : Option Addr) (cb : Nat) (BL : List Int) (ph : Option Addr) (ch : Nat) (HL : List Int), Hid (Gg.Fy w wx base (base + 2) M B (base + 1) v' n qs blk (lsOf pi pn0 pn pb ph IL NX NL BL HL) s2 s3 (.slice pi IL.length ci) (.slice pn NL.length cn) (.slice pb BL.length cb) (.slice ph HL.length ch)) ∧ Hid (Said E ns n qs NX bs hs NL BL HL))
 case first =>
   go_region_held3 (fun w' => w'.cell? ⟨w.heap.size, 0, none⟩ = some (.slice a0 ns.length c0) ∧ w'.cell? ⟨w.heap.size, 1, none⟩ = some (.slice a1 is.length c1) ∧ w'.cell? ⟨w.heap.size, 2, none⟩ = some (.slice a2 xs.length c2) ∧ w'.cell? ⟨w.heap.size, 3, none⟩ = some (.slice a3 bs.length c3) ∧ w'.cell? ⟨w.heap.size, 4, none⟩ = some (.slice a4 hs.length c4))
     (first
       | with_reducible exact E9.out.xset hblk _ _ _ _ _ _ _ _
       | with_reducible exact E9.out.xs
       | with_reducible exact E8.out.xs
       | with_reducible exact E7.out.xs
       | with_reducible exact E6.out.xs
       | with_reducible exact E5.out.xs
       | with_reducible exact E4.out.xs
       | with_reducible exact ED.out.xs
       | with_reducible exact (E9.out.alloc HE.out _).xs
       | with_reducible exact (E8.out.alloc HE.out _).xs
       | with_reducible exact (E7.out.alloc HE.out _).xs
       | with_reducible exact (E6.out.alloc HE.out _).xs
       | with_reducible exact (E5.out.alloc HE.out _).xs
       | with_reducible exact (E4.out.alloc HE.out _).xs
       | with_reducible exact EA.out.xs
       | go_keep)
     (first
       | (have _ := E8; go_at_call 35; with_reducible refine (HAH.out _ base (base + 2) M B (base + 1) v8 ps8 D8 _ (by first | with_reducible exact E8.out | with_reducible exact E8.out.alloc HE.out _)).mono ?_; rintro e w9 ⟨v9, ps9, D9, ph, ch, HL, rfl, e9, t9, ⟨j9, x9⟩, g9, n9⟩
          have E9 := hide e9
          have T9 : Hid (Said E ns n ps9 NX bs hs NL BL HL) := ⟨e9.k.bs.good, e9.k.bs.bm.wf, T8.out.1.ext HE.out x9, T8.out.2.ext HE.out x9, t9⟩
          first
            | (have RR := hide (Gg.rb_all (L := HL) RR.out g9 n9))
            | (have RR := hide (Gg.rb_all (L := HL) E8.out.rb g9 n9))
            | skip
          first
            | (obtain ⟨z0, z1, z2, z3, z4, z5, z6, z7, zf⟩ := RR.out.r
               have hblk := RR.out.hb)
            | skip)
       | (have _ := E7; go_at_call 35; with_reducible refine (HAB.out _ base (base + 2) M B (base + 1) v7 ps7 D7 _ (by first | with_reducible exact E7.out | with_reducible exact E7.out.alloc HE.out _)).mono ?_; rintro e w8 ⟨v8, ps8, D8, pb, cb, BL, rfl, e8, t8, ⟨j8, x8⟩, g8, n8⟩
          have E8 := hide e8
          have T8 := hide (And.intro (T7.out.ext HE.out x8) t8)
          first
            | (have RR := hide (Gg.rb_all (L := BL) RR.out g8 n8))
            | (have RR := hide (Gg.rb_all (L := BL) E7.out.rb g8 n8))
            | skip)
       | (have _ := E6; go_at_call 35; with_reducible refine (HAN.out _ base (base + 2) M B (base + 1) v [] D _ pn0 cn0 (by first | with_reducible exact E6.out | with_reducible exact E6.out.alloc HE.out _)).mono ?_; rintro e w7 ⟨v7, ps7, D7, pn, cn, NL, rfl, e7, t7, ⟨j7, x7⟩, g7, n7⟩
          have E7 := hide e7
          have T7 := hide t7
          first
            | (have RR := hide (Gg.rb_all (L := NL) RR.out g7 n7))
            | (have RR := hide (Gg.rb_all (L := NL) E6.out.rb g7 n7))
            | skip)
       | (have _ := E5; go_at_call 36; with_reducible refine (HNX.out _ (by first | with_reducible exact E5.out.bel | with_reducible exact bal E5.out.bel _)).mono ?_; rintro e w6 ⟨pn0, cn0, rfl, hI6, hb6, n6⟩
          have e6' : Gg.Ey E ns ⟨a0, c0, a1, is.length, c1, a2, xs.length, c2, a3, bs.length, c3, a4, hs.length, c4⟩ w w6 base (base + 2) M B (base + 1) v n [] D [(pn0, NX), (pi, IL)] := (by first | exact Gg.ey_new E5.out HE.out hb6 hI6 n6 | exact Gg.ey_new (E5.out.alloc HE.out _) HE.out hb6 hI6 n6)
          have E6 := hide e6'
          first
            | (have RR := hide (Gg.rb_new (L := NX) RR.out hb6 n6))
            | (have RR := hide (Gg.rb_new (L := NX) E5.out.rb hb6 n6))
            | skip)
       | (have _ := E4; go_at_call 34; with_reducible refine (HB3.out _ (by first | with_reducible exact E4.out.bel | with_reducible exact bal E4.out.bel _)).mono ?_; rintro e w5 ⟨rfl, hb5⟩
          have e5' : Gg.Ey E ns ⟨a0, c0, a1, is.length, c1, a2, xs.length, c2, a3, bs.length, c3, a4, hs.length, c4⟩ w w5 base (base + 2) M B (base + 1) v n [] D [(pi, IL)] := (by first | with_reducible exact E4.out.later HE.out hb5 | with_reducible exact (E4.out.alloc HE.out _).later HE.out hb5)
          have E5 := hide e5'
          first
            | (have RR := hide (RR.out.later hb5))
            | (have RR := hide (E4.out.rb.later hb5))
            | skip)
       | (go_at_call 34; with_reducible refine (HB2.out _ (by first | with_reducible exact ED.out.bel | with_reducible exact EA.out.bel)).mono ?_; rintro e w4 ⟨rfl, hb4⟩
          have e4' : Gg.Ey E ns ⟨a0, c0, a1, is.length, c1, a2, xs.length, c2, a3, bs.length, c3, a4, hs.length, c4⟩ w w4 base (base + 2) M B (base + 1) v n [] D [(pi, IL)] := (by first | with_reducible exact ED.out.later HE.out hb4 | with_reducible exact EA.out.later HE.out hb4)
          have E4 := hide e4'
          first
            | (have RR := hide (RA.out.later hb4))
            | skip))
   all_goals go_wp2_with fail
   all_goals go_meet
   all_goals refine ⟨_, rfl, v9, ps9, pn0, pn, cn, NL, pb, cb, BL, ph, ch, HL, ?_, T9⟩
   all_goals (first
     | with_reducible exact hide (Gg.fy_set E9.out RR.out (by omega) s2 s3 (.slice pi IL.length ci) (.slice pn NL.length cn) (.slice pb BL.length cb) (.slice ph HL.length ch))
     | with_reducible exact hide (Gg.fy_alloc E9.out HE.out (by omega) s2 s3 (.slice pi IL.length ci) (.slice pn NL.length cn) (.slice pb BL.length cb) (.slice ph HL.length ch)))
 case rest =>
   obtain ⟨blk, rfl, v', qs, pn0, pn, cn, NL, pb, cb, BL, ph, ch, HL, HF, HS⟩ := hcut
   obtain ⟨pv, cv, rfl, _⟩ := Gg.owns_pairs HF.out.row
   obtain ⟨⟨z0, z1, z2, z3, z4, z5, z6, z7, zf⟩, p0, m0, m1, _, _, _, d0, d1, d2, d3, d4, d5, d6, d7, cf, _, hbk, hnb, hn, hP, hM⟩ := HF.out
   obtain ⟨hLS, hPS, hBS⟩ := Gg.fy_end HF.out (.int .i64 (n : Nat)) (.slice pv qs.length cv) (.int .i64 (n : Nat)) (.slice pv qs.length cv) (.int .i64 s2) (.int .i64 s3) (.slice pi IL.length ci) (.slice pn NL.length cn) (.slice pb BL.length cb) (.slice ph HL.length ch) rfl
   have HLS := hide hLS
   have HP := hide hPS
   have HB := hide hBS
   clear hLS hPS hBS HB2 HB3 HNX HAN HAB HAH ED EA RA HF
   go_wp2
   exact bodyPost_ret (v := .tuple #[Gg.circ (n : Nat) pv qs.length cv s2 s3 ⟨pi, IL, ci⟩ ⟨pn, NL, cn⟩ ⟨pb, BL, cb⟩ ⟨ph, HL, ch⟩, .int .i64 0]) (by simp [results, Tryz.results8, go_sem, z0, z1, z2, z3, z4, z5, z6, z7]) rfl ⟨pv, cv, qs, pi, ci, pn, cn, NL, pb, cb, BL, ph, ch, HL, rfl, HP.out, HLS.out (pi, IL) (by simp), HLS.out (pn, NL) (by simp), HLS.out (pb, BL) (by simp), HLS.out (ph, HL) (by simp), HS.out, HB.out⟩
end Go.Proofs.YtabnimgpednhjabGreat
