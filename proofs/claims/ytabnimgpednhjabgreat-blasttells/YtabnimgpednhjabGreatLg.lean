import Derived.Test.YtabnimgpednhjabGreatLf
import Derived.Deep.RegionHeld3
import Derived.Deep.CutRange
import Derived.Deep.QuietTactic
import Derived.BigQuiet
namespace Go.Proofs.YtabnimgpednhjabGreat
open Go.RowKit Go.Maps
set_option maxRecDepth 100000
theorem vals_small {ns : List Nd} (hn : firstN (nodeAtE ns) ns.length = 0) {sts ins : List Int} (hs : wordsE ns 3 sts = 0) (hi : wordsE ns 2 ins = 0) (k : Nat) : 0 ≤ (vals ns sts ins ns.length).getD k 0 ∧ (vals ns sts ins ns.length).getD k 0 < 256 := by
 by_cases hk : k < ns.length
 · have := vals_isW hn hs hi k hk
   rw [vals_at ns sts ins hk]
   obtain ⟨h1, h2⟩ := isW_iff.1 this
   have hw : wdOf ns k ≤ 8 := by unfold wdOf; rw [Int.toNat_natCast, List.getElem?_eq_getElem hk]; exact ((nodes_ok hn).1 k hk).2
   have := two_eight hw
   exact ⟨h1, by omega⟩
 · rw [Gg.getD_past (by rw [vals_len]; omega)]
   exact ⟨by omega, by omega⟩
theorem nextRL_small {ns : List Nd} (hn : firstN (nodeAtE ns) ns.length = 0) {sts ins : List Int} (hs : wordsE ns 3 sts = 0) (hi : wordsE ns 2 ins = 0) (xs : List (Int × Int)) : ∀ x ∈ nextRL ns xs (vals ns sts ins ns.length), 0 ≤ x ∧ x < 256 := by
 intro x hx
 obtain ⟨s, _, rfl⟩ := List.mem_map.1 hx
 exact vals_small hn hs hi _
theorem beginRL_small {ns : List Nd} (hn : firstN (nodeAtE ns) ns.length = 0) {sts : List Int} (hs : wordsE ns 3 sts = 0) (is : List (Int × Int)) : ∀ x ∈ beginRL ns is sts (vals ns (zeroS ns) (zeroI ns) ns.length), 0 ≤ x ∧ x < 256 := by
 intro x hx
 obtain ⟨j, _, rfl⟩ := List.mem_map.1 hx
 split
 · exact vals_small hn (zeros_fit 3) (zeros_fit 2) _
 · by_cases hj : j < sts.length
   · rw [Gg.getD_at hj]
     exact words_small (nodes_ok hn).1 hs _ (List.getElem_mem hj)
   · rw [Gg.getD_past (by omega)]
     exact ⟨by omega, by omega⟩
set_option maxHeartbeats 16000000 in
theorem tellsG_walk (hbg : ∀ w, Calls Tryz.prog 5 #[] w fun e w' => e = .returned (.bool true) ∧ Below w.heap.size w w') (a0 a1 a2 a3 a4 : Option Addr) (c0 c1 c2 c3 c4 : Nat) (ns : List Nd) (is xs : List (Int × Int)) (bs hs : List Int) (hck : checkE ns is xs bs hs = 0) (hli : is.length ≤ 8796093022208) (hlx : xs.length ≤ 8796093022208) (hn3 : a3 = none → c3 = 0) (hn4 : a4 = none → c4 = 0) (st ip : Int) (hst : -9223372036854775808 ≤ st ∧ st ≤ 9223372036854775807) (hip : -9223372036854775808 ≤ ip ∧ ip ≤ 9223372036854775807) (w : World)
   (hN : NodesAt w a0 ns) (hI : PairsAt w a1 is) (hX : PairsAt w a2 xs) (hBs : IntsAt w a3 bs) (hHs : IntsAt w a4 hs) :
   Calls Tryz.prog 4 #[Mv.val ⟨a0, c0, a1, is.length, c1, a2, xs.length, c2, a3, bs.length, c3, a4, hs.length, c4⟩ ns.length, .int .i64 st, .int .i64 ip] w fun e w' => e = .returned (.bool true) ∧ Below w.heap.size w w' := by
 obtain ⟨⟨hl80, hlb8, hlh8⟩, hnn, hpp, hmk⟩ := check_zero hck
 have hW := (nodes_ok hnn).1
 have hlm : ns.length ≤ maxLen := by unfold maxLen; omega
 have hbm : bs.length ≤ maxLen := by unfold maxLen; omega
 have hhm : hs.length ≤ maxLen := by unfold maxLen; omega
 obtain ⟨hs2, hs3⟩ := sums_bd hck
 have h2 := lenW_sum hW (S := sel (isK ns 2) ns.length) sel_in2
 have h3 := lenW_sum hW (S := sel (isK ns 3) ns.length) sel_in2
 have hT := inT_sum hW
 have h20 : 0 ≤ sumW ns (sel (isK ns 2) ns.length) := by omega
 have h30 : 0 ≤ sumW ns (sel (isK ns 3) ns.length) := by omega
 have HT2 := hide (two_any (sumW ns (sel (isK ns 2) ns.length)) h20 (by omega))
 have HT3 := hide (two_any (sumW ns (sel (isK ns 3) ns.length)) h30 (by omega))
 have ht2 : two (sumW ns (sel (isK ns 2) ns.length)) ≤ 1024 := by
   have h := two_le (sumW ns (sel (isK ns 2) ns.length)).toNat 10 (by omega)
   rw [show (((sumW ns (sel (isK ns 2) ns.length)).toNat : Nat) : Int) = sumW ns (sel (isK ns 2) ns.length) by omega] at h
   exact h
 have ht3 : two (sumW ns (sel (isK ns 3) ns.length)) ≤ 1024 := by
   have h := two_le (sumW ns (sel (isK ns 3) ns.length)).toNat 10 (by omega)
   rw [show (((sumW ns (sel (isK ns 3) ns.length)).toNat : Nat) : Int) = sumW ns (sel (isK ns 3) ns.length) by omega] at h
   exact h
 have HP2 := hide (choose_any ip (two (sumW ns (sel (isK ns 2) ns.length))) hip.1 hip.2 (two_pos _) (by omega))
 have HP3 := hide (choose_any st (two (sumW ns (sel (isK ns 3) ns.length))) hst.1 hst.2 (two_pos _) (by omega))
 have hx2 := pick_bd ip (two (sumW ns (sel (isK ns 2) ns.length))) (two_pos _)
 have hx3 := pick_bd st (two (sumW ns (sel (isK ns 3) ns.length))) (two_pos _)
 generalize hp2 : pick ip (two (sumW ns (sel (isK ns 2) ns.length))) = x2 at *
 generalize hp3 : pick st (two (sumW ns (sel (isK ns 3) ns.length))) = x3 at *
 have hfi := wordsN_fit ns 2 x2
 have hfs := wordsN_fit ns 3 x3
 have hpx : ∀ (i : Nat) (h : i < xs.length), 0 ≤ xs[i].1 ∧ xs[i].1 < 80 ∧ 0 ≤ xs[i].2 ∧ xs[i].2 < 80 := fun i hi => by
   have := pairE_zero ((pairs_zero hpp).2.1 _ (List.getElem_mem hi))
   omega
 have hpi : ∀ p ∈ is, 0 ≤ p.2 ∧ p.2 < ns.length := fun p hp => (pairE_zero (init_zero ((pairs_zero hpp).1 p hp))).2.1
 have HW2 := hide (fun (w' : World) (hb : Below w.heap.size w w') => wordsOf_any a0 a1 a2 a3 a4 c0 c1 c2 c3 c4 is.length xs.length bs.length hs.length ns hl80 hW 2 x2 hx2.1 (by omega) w' (hN.later hb))
 have HW3 := hide (fun (w' : World) (hb : Below w.heap.size w w') => wordsOf_any a0 a1 a2 a3 a4 c0 c1 c2 c3 c4 is.length xs.length bs.length hs.length ns hl80 hW 3 x3 hx3.1 (by omega) w' (hN.later hb))
 have hsi := words_small hW hfi
 have hss := words_small hW hfs
 have hli2 := wordsN_len ns (sel (isK ns 2) ns.length) x2 (sel (isK ns 2) ns.length).length
 have hls3 := wordsN_len ns (sel (isK ns 3) ns.length) x3 (sel (isK ns 3) ns.length).length
 generalize wordsN ns (sel (isK ns 2) ns.length) x2 (sel (isK ns 2) ns.length).length = INS at *
 generalize wordsN ns (sel (isK ns 3) ns.length) x3 (sel (isK ns 3) ns.length).length = STS at *
 have HBI := hide (fun (w' : World) (pl : Option Addr) (cl : Nat) (hb : Below w.heap.size w w') (hL : IntsAt w' pl INS) => bitsOfR_any a0 a1 a2 a3 a4 c0 c1 c2 c3 c4 is.length xs.length bs.length hs.length ns hl80 hW 2 INS pl cl hli2 hsi w' (hN.later hb) hL)
 have HBS := hide (fun (w' : World) (pl : Option Addr) (cl : Nat) (hb : Below w.heap.size w w') (hL : IntsAt w' pl STS) => bitsOfR_any a0 a1 a2 a3 a4 c0 c1 c2 c3 c4 is.length xs.length bs.length hs.length ns hl80 hW 3 STS pl cl hls3 hss w' (hN.later hb) hL)
 have HBN := hide (fun (w' : World) (pl : Option Addr) (cl : Nat) (hb : Below w.heap.size w w') (hL : IntsAt w' pl (nextRL ns xs (vals ns STS INS ns.length))) => bitsOfR_any a0 a1 a2 a3 a4 c0 c1 c2 c3 c4 is.length xs.length bs.length hs.length ns hl80 hW 3 (nextRL ns xs (vals ns STS INS ns.length)) pl cl (by unfold nextRL; simp) (nextRL_small hnn hfs hfi xs) w' (hN.later hb) hL)
 have HBB := hide (fun (w' : World) (pl : Option Addr) (cl : Nat) (hb : Below w.heap.size w w') (hL : IntsAt w' pl (beginRL ns is STS (vals ns (zeroS ns) (zeroI ns) ns.length))) => bitsOfR_any a0 a1 a2 a3 a4 c0 c1 c2 c3 c4 is.length xs.length bs.length hs.length ns hl80 hW 3 (beginRL ns is STS (vals ns (zeroS ns) (zeroI ns) ns.length)) pl cl (by unfold beginRL; simp) (beginRL_small hnn hfs is) w' (hN.later hb) hL)
 have HVO := hide (fun (w' : World) (ps pi : Option Addr) (cs ci : Nat) (hb : Below w.heap.size w w') (hS : IntsAt w' ps STS) (hIn : IntsAt w' pi INS) => valuesOf_any ⟨a0, c0, a1, is.length, c1, a2, xs.length, c2, a3, bs.length, c3, a4, hs.length, c4⟩ ns hl80 hnn STS INS hfs hfi ps pi cs ci w' (hN.later hb) hS hIn)
 have hvl := vals_len ns STS INS ns.length
 have HNX : Hid (∀ (w' : World) (pv : Option Addr) (cv : Nat), Below w.heap.size w w' → IntsAt w' pv (vals ns STS INS ns.length) → Calls Tryz.prog 18 #[Mv.val ⟨a0, c0, a1, is.length, c1, a2, xs.length, c2, a3, bs.length, c3, a4, hs.length, c4⟩ ns.length, .slice pv ns.length cv] w' fun e w'' =>
     ∃ p cap, e = .returned (.slice p (nextRL ns xs (vals ns STS INS ns.length)).length cap) ∧ IntsAt w'' p (nextRL ns xs (vals ns STS INS ns.length)) ∧ Below w'.heap.size w' w'') := fun w' pv cv hb hV => by
   have h := nextOf_any a0 a1 a2 a3 a4 c0 c1 c2 c3 c4 is.length bs.length hs.length ns xs hl80 hlx (next_in hck) (vals ns STS INS ns.length) hvl pv cv w' (hN.later hb) (hX.later hb) hV
   rw [hvl] at h
   exact h
 have HBG := hide (fun (w' : World) (p4 : Option Addr) (k4 : Nat) (hb : Below w.heap.size w w') (hS : IntsAt w' p4 STS) => beginOf_any a0 a1 a2 a3 a4 c0 c1 c2 c3 c4 xs.length bs.length hs.length ns is hl80 hnn hli hpi STS hls3 p4 k4 w' (hN.later hb) (hI.later hb) hS)
 have HND := hide (fun (w' : World) (hb : Below w.heap.size w w') => nodesR_any ⟨a0, c0, a1, is.length, c1, a2, xs.length, c2, a3, bs.length, c3, a4, hs.length, c4⟩ ns (by omega) 3 w' (hN.later hb))
 have HPO := hide (fun (s : Int) (w' : World) (hb : Below w.heap.size w w') => pairOf_any s is hli a1 c1 w' (hI.later hb))
 have HBT2 : Hid (∀ (w' : World), Below w.heap.size w w' → Calls Tryz.prog 11 #[.agg #[.slice a0 ns.length c0, .slice a1 is.length c1, .slice a2 xs.length c2, .slice a3 bs.length c3, .slice a4 hs.length c4], .int .i64 2] w' fun e w'' => e = .returned (.int .i64 (sumW ns (sel (isK ns 2) ns.length))) ∧ Below w'.heap.size w' w'') := fun w' hb => bitsR_any ⟨a0, c0, a1, is.length, c1, a2, xs.length, c2, a3, bs.length, c3, a4, hs.length, c4⟩ ns hl80 hW 2 w' (hN.later hb)
 have HBT3 : Hid (∀ (w' : World), Below w.heap.size w w' → Calls Tryz.prog 11 #[.agg #[.slice a0 ns.length c0, .slice a1 is.length c1, .slice a2 xs.length c2, .slice a3 bs.length c3, .slice a4 hs.length c4], .int .i64 3] w' fun e w'' => e = .returned (.int .i64 (sumW ns (sel (isK ns 3) ns.length))) ∧ Below w'.heap.size w' w'') := fun w' hb => bitsR_any ⟨a0, c0, a1, is.length, c1, a2, xs.length, c2, a3, bs.length, c3, a4, hs.length, c4⟩ ns hl80 hW 3 w' (hN.later hb)
 have HCR : Hid (∀ (w' : World), Below w.heap.size w w' → Calls Tryz.prog 9 #[Mv.val ⟨a0, c0, a1, is.length, c1, a2, xs.length, c2, a3, bs.length, c3, a4, hs.length, c4⟩ ns.length] w' fun e w'' => e = .returned (.int .i64 0) ∧ Below w'.heap.size w' w'') := fun w' hb => by
   have h := checkModelR_any a0 a1 a2 a3 a4 c0 c1 c2 c3 c4 ns is xs bs hs hlm hli hlx hbm hhm hn3 hn4 w' (hN.later hb) (hI.later hb) (hX.later hb) (hBs.later hb) (hHs.later hb)
   rw [hck] at h
   exact h
 have HBL : Hid (∀ (w' : World), Below w.heap.size w w' → Calls Tryz.prog 8 #[Mv.val ⟨a0, c0, a1, is.length, c1, a2, xs.length, c2, a3, bs.length, c3, a4, hs.length, c4⟩ ns.length] w' fun e w'' => ∃ (pv : Option Addr) (cv : Nat) (qs : Gg.Gr) (i x b h : Gg.Sl),
     e = .returned (.tuple #[Gg.circ (Gg.inT ns (Gg.inL ns).length : Nat) pv qs.length cv (sumW ns (sel (isK ns 2) ns.length)) (sumW ns (sel (isK ns 3) ns.length)) i x b h, .int .i64 0]) ∧ PairsAt w'' pv qs ∧ IntsAt w'' i.at' i.ns ∧ IntsAt w'' x.at' x.ns ∧ IntsAt w'' b.at' b.ns ∧ IntsAt w'' h.at' h.ns ∧
     Tfact (Gg.inT ns (Gg.inL ns).length) qs (sumW ns (sel (isK ns 2) ns.length)) (sumW ns (sel (isK ns 3) ns.length)) i.ns x.ns b.ns h.ns
     (bitsN ns (sel (isK ns 2) ns.length) INS (sel (isK ns 2) ns.length).length ++ bitsN ns (sel (isK ns 3) ns.length) STS (sel (isK ns 3) ns.length).length)
     (bitsN ns (sel (isK ns 3) ns.length) (nextRL ns xs (vals ns STS INS ns.length)) (sel (isK ns 3) ns.length).length)
     (bitsN ns (sel (isK ns 3) ns.length) (beginRL ns is STS (vals ns (zeroS ns) (zeroI ns) ns.length)) (sel (isK ns 3) ns.length).length)
     bs hs (vals ns STS INS ns.length) (sel (isK ns 3) ns.length) is (wdOf ns) (lenW ns (sel (isK ns 3) ns.length)) ∧ Below w'.heap.size w' w'') := fun w' hb => by
   refine (blastN_any a0 a1 a2 a3 a4 c0 c1 c2 c3 c4 ns is xs bs hs hck hli hlx (EnvE ns INS STS) (env_ok hnn _ _) (env_in hW hfi hfs) (by omega) hpx (nexts_in hck) w' (hN.later hb) (hI.later hb) (hX.later hb) (hBs.later hb) (hHs.later hb)).mono ?_
   rintro e w1 ⟨pv, cv, qs, pi, ci, pn, cn, NL, pb, cb, BL, ph, ch, HL, rfl, hg1, hi1, hx1, hb1, hh1, hsaid, hbel1⟩
   exact ⟨pv, cv, qs, ⟨pi, _, ci⟩, ⟨pn, NL, cn⟩, ⟨pb, BL, cb⟩, ⟨ph, HL, ch⟩, rfl, hg1, hi1, hx1, hb1, hh1, tfact_of hck hfi hfs hsaid, hbel1⟩
 have HBs := hide hBs
 have HHs := hide hHs
 have HNs := hide hN
 have HG := hide hbg
 have HS3 : Hid (∀ x ∈ sel (isK ns 3) ns.length, 0 ≤ x ∧ x < ns.length ∧ 1 ≤ wdOf ns x ∧ wdOf ns x ≤ 8) := fun x hx => by
   obtain ⟨h1, h2⟩ := sel_in2 x hx
   have hk : x.toNat < ns.length := by omega
   refine ⟨h1, h2, ?_⟩
   unfold wdOf
   rw [List.getElem?_eq_getElem hk]
   exact hW _ hk
 have hS3l := sel_len (isK ns 3) ns.length
 have hn16 : Gg.inT ns (Gg.inL ns).length ≤ 16 := by omega
 clear hN hI hX hBs hHs hbg hck hnn hpp hmk hW hlm hbm hhm h2 h3 hT hx2 hx3 hp2 hp3 hfi hfs hpx hpi hsi hss hli2 hls3
 generalize bitsN ns (sel (isK ns 2) ns.length) INS (sel (isK ns 2) ns.length).length = BI at *
 generalize bitsN ns (sel (isK ns 3) ns.length) STS (sel (isK ns 3) ns.length).length = BS at *
 generalize bitsN ns (sel (isK ns 3) ns.length) (nextRL ns xs (vals ns STS INS ns.length)) (sel (isK ns 3) ns.length).length = NXB at *
 generalize bitsN ns (sel (isK ns 3) ns.length) (beginRL ns is STS (vals ns (zeroS ns) (zeroI ns) ns.length)) (sel (isK ns 3) ns.length).length = BGB at *
 generalize nextRL ns xs (vals ns STS INS ns.length) = NXW at *
 generalize beginRL ns is STS (vals ns (zeroS ns) (zeroI ns) ns.length) = BGW at *
 generalize vals ns STS INS ns.length = V at *
 generalize lenW ns (sel (isK ns 3) ns.length) = LW at *
 generalize two (sumW ns (sel (isK ns 2) ns.length)) = t2 at *
 generalize two (sumW ns (sel (isK ns 3) ns.length)) = t3 at *
 generalize sumW ns (sel (isK ns 2) ns.length) = s2 at *
 generalize sumW ns (sel (isK ns 3) ns.length) = s3 at *
 generalize Gg.inT ns (Gg.inL ns).length = n at *
 generalize sel (isK ns 3) ns.length = S3 at *
 generalize hbbq : BI ++ BS = bb at *
 have HBBQ := hide hbbq
 clear hbbq
 go_enter Tryz.func4, Tryz.ntmps4
 go_wp2_with fail
 have hB0 : Below w.heap.size w (w.alloc (.cells (Mv.cells ⟨a0, c0, a1, is.length, c1, a2, xs.length, c2, a3, bs.length, c3, a4, hs.length, c4⟩ ns.length) 35)) := bal (Below.refl _ _) _
 have HBx := hide (Box.new w ⟨a0, c0, a1, is.length, c1, a2, xs.length, c2, a3, bs.length, c3, a4, hs.length, c4⟩ ns.length)
 refine (HBL.out _ hB0).mono ?_
 rintro e w1 ⟨pv, cv, qs, ⟨pi, IL, ci⟩, ⟨pn, NL, cn⟩, ⟨pb, BL, cb⟩, ⟨ph, HL, ch⟩, rfl, hg1, hi1, hx1, hb1, hh1, htf, hbel1⟩
 have HTF := hide htf
 have HX1 := hide (HBx.out.later hbel1)
 obtain ⟨q0, q1, q2, q3, q4⟩ := id HX1.out
 simp only at q0 q1 q2 q3 q4
 have hs1 : w.heap.size < w1.heap.size := World.block_lt_of_cell? _ _ q0
 have hne1 : ¬ w.heap.size = w1.heap.size := by omega
 have hne2 : ¬ w1.heap.size = w.heap.size := by omega
 have hbA : Below w1.heap.size w1 (w1.alloc (.cells #[.int .i64 (n : Nat), .slice pv qs.length cv, .int .i64 s2, .int .i64 s3, .slice pi IL.length ci, .slice pn NL.length cn, .slice pb BL.length cb, .slice ph HL.length ch] 27)) := bal (Below.refl _ _) _
 have HK1 : Hid (Lk w (w1.alloc (.cells #[.int .i64 (n : Nat), .slice pv qs.length cv, .int .i64 s2, .int .i64 s3, .slice pi IL.length ci, .slice pn NL.length cn, .slice pb BL.length cb, .slice ph HL.length ch] 27)) ⟨a0, c0, a1, is.length, c1, a2, xs.length, c2, a3, bs.length, c3, a4, hs.length, c4⟩ ns is xs bs hs w1.heap.size n pv cv qs s2 s3 ⟨pi, IL, ci⟩ ⟨pn, NL, cn⟩ ⟨pb, BL, cb⟩ ⟨ph, HL, ch⟩) :=
   ⟨bthen (bthen hB0 hbel1) hbA, cell_later hbA q0, cell_later hbA q1, cell_later hbA q2, cell_later hbA q3, cell_later hbA q4, by simp [go_sem], by simp [go_sem], by simp [go_sem], by simp [go_sem], by simp [go_sem], by simp [go_sem], by simp [go_sem], by simp [go_sem], hg1.later hbA, hi1.later hbA, hx1.later hbA, hb1.later hbA, hh1.later hbA⟩
 simp only at hi1 hx1 hb1 hh1
 clear htf hg1 hi1 hx1 hb1 hh1 hbel1 hB0 hbA HBx HX1 HBL
 go_wp2_with fail
 refine (HCR.out _ HK1.out.bel).mono ?_
 rintro e w2 ⟨rfl, hb2⟩
 have HK2 := hide (HK1.out.later hb2)
 clear q0 q1 q2 q3 q4 HK1 hb2 HCR hne1 hne2 hs1
 generalize w1.heap.size = cB at *
 have hILl : (IL.length : Int) = s3 := by
   have h := HTF.out.cir
   unfold Gg.cirE at h
   split at h
   · contradiction
   · split at h
     · omega
     · split at h
       · omega
       · rename_i h5; omega
 have hNLl := HTF.out.nl
 have hBLl := HTF.out.bl
 have hHLl := HTF.out.hl
 have hQl := HTF.out.len
 have HCI : Hid (∀ (u : World), Lk w u ⟨a0, c0, a1, is.length, c1, a2, xs.length, c2, a3, bs.length, c3, a4, hs.length, c4⟩ ns is xs bs hs cB n pv cv qs s2 s3 ⟨pi, IL, ci⟩ ⟨pn, NL, cn⟩ ⟨pb, BL, cb⟩ ⟨ph, HL, ch⟩ → Calls Tryz.prog 7 #[.agg #[.int .i64 (n : Nat), .slice pv qs.length cv, .int .i64 s2, .int .i64 s3, .slice pi IL.length ci, .slice pn NL.length cn, .slice pb BL.length cb, .slice ph HL.length ch]] u fun e w' => e = .returned (.int .i64 0) ∧ Below u.heap.size u w') := fun u hk => hk.check HTF.out.wfp HTF.out.len ⟨h20, by omega⟩ ⟨h30, by omega⟩ HTF.out.cir (by simp only; omega) (by simp only; omega) (by simp only; omega) (by simp only; omega)
 have HCA : Hid (∀ w', Lk w w' ⟨a0, c0, a1, is.length, c1, a2, xs.length, c2, a3, bs.length, c3, a4, hs.length, c4⟩ ns is xs bs hs cB n pv cv qs s2 s3 ⟨pi, IL, ci⟩ ⟨pn, NL, cn⟩ ⟨pb, BL, cb⟩ ⟨ph, HL, ch⟩ → w'.cell? ⟨w.heap.size, 0, none⟩ = some (.slice a0 ns.length c0) ∧ w'.cell? ⟨w.heap.size, 1, none⟩ = some (.slice a1 is.length c1) ∧ w'.cell? ⟨w.heap.size, 2, none⟩ = some (.slice a2 xs.length c2) ∧ w'.cell? ⟨w.heap.size, 3, none⟩ = some (.slice a3 bs.length c3) ∧ w'.cell? ⟨w.heap.size, 4, none⟩ = some (.slice a4 hs.length c4) ∧ w'.cell? ⟨cB, 0, none⟩ = some (.int .i64 (n : Nat)) ∧ w'.cell? ⟨cB, 1, none⟩ = some (.slice pv qs.length cv) ∧ w'.cell? ⟨cB, 2, none⟩ = some (.int .i64 s2) ∧ w'.cell? ⟨cB, 3, none⟩ = some (.int .i64 s3) ∧ w'.cell? ⟨cB, 4, none⟩ = some (.slice pi IL.length ci) ∧ w'.cell? ⟨cB, 5, none⟩ = some (.slice pn NL.length cn) ∧ w'.cell? ⟨cB, 6, none⟩ = some (.slice pb bs.length cb) ∧ w'.cell? ⟨cB, 7, none⟩ = some (.slice ph hs.length ch)) := fun w' hk => by
   have h := hk.ca
   simp only [hBLl, hHLl] at h
   exact h
 rw [hBLl, hHLl] at HCI
 have HILl := hide (And.intro hILl (And.intro hNLl (And.intro hBLl hHLl)))
 obtain ⟨q0, q1, q2, q3, q4, k0, k1, k2, k3, k4, k5, k6, k7⟩ := HCA.out _ HK2.out
 clear hILl hNLl hBLl hHLl
 have HK2d := hide HK2.out.drew
 go_upto_region 5 with fail
 go_cut [111] from 24 to 110 (fun s wx => s = .bool false ∧ Hid (Lk w wx ⟨a0, c0, a1, is.length, c1, a2, xs.length, c2, a3, bs.length, c3, a4, hs.length, c4⟩ ns is xs bs hs cB n pv cv qs s2 s3 ⟨pi, IL, ci⟩ ⟨pn, NL, cn⟩ ⟨pb, BL, cb⟩ ⟨ph, HL, ch⟩))
 case first =>
   go_wp2_with fail
   go_region_held3 (fun w' => w'.cell? ⟨w.heap.size, 0, none⟩ = some (.slice a0 ns.length c0) ∧ w'.cell? ⟨w.heap.size, 1, none⟩ = some (.slice a1 is.length c1) ∧ w'.cell? ⟨w.heap.size, 2, none⟩ = some (.slice a2 xs.length c2) ∧ w'.cell? ⟨w.heap.size, 3, none⟩ = some (.slice a3 bs.length c3) ∧ w'.cell? ⟨w.heap.size, 4, none⟩ = some (.slice a4 hs.length c4) ∧ w'.cell? ⟨cB, 0, none⟩ = some (.int .i64 (n : Nat)) ∧ w'.cell? ⟨cB, 1, none⟩ = some (.slice pv qs.length cv) ∧ w'.cell? ⟨cB, 2, none⟩ = some (.int .i64 s2) ∧ w'.cell? ⟨cB, 3, none⟩ = some (.int .i64 s3) ∧ w'.cell? ⟨cB, 4, none⟩ = some (.slice pi IL.length ci) ∧ w'.cell? ⟨cB, 5, none⟩ = some (.slice pn NL.length cn) ∧ w'.cell? ⟨cB, 6, none⟩ = some (.slice pb bs.length cb) ∧ w'.cell? ⟨cB, 7, none⟩ = some (.slice ph hs.length ch))
     (first
       | with_reducible exact HCA.out _ HK6.out
       | with_reducible exact HCA.out _ HK5.out
       | with_reducible exact HCA.out _ HK4.out
       | with_reducible exact HCA.out _ HK3.out
       | with_reducible exact HCA.out _ HK2d.out
       | go_keep)
     (first
       | (have _ := HK5; go_at_call 11; with_reducible refine (HBT3.out _ HK5.out.bel).mono ?_; rintro e w6 ⟨rfl, hb6⟩; have HK6 := hide (HK5.out.later hb6))
       | (have _ := HK4; go_at_call 11; with_reducible refine (HBT2.out _ HK4.out.bel).mono ?_; rintro e w5 ⟨rfl, hb5⟩; have HK5 := hide (HK4.out.later hb5))
       | (have _ := HK3; go_at_call 7; with_reducible refine (HCI.out _ HK3.out).mono ?_; rintro e w4 ⟨rfl, hb4⟩; have HK4 := hide (HK3.out.later hb4))
       | (go_at_call 5; with_reducible refine (HG.out _).mono ?_; rintro e w3 ⟨rfl, hb3⟩; have HK3 := hide (HK2d.out.later hb3)))
   all_goals go_wp2_with fail
   all_goals go_meet
   all_goals exact ⟨rfl, HK6⟩
 case rest =>
   obtain ⟨rfl, HK6⟩ := hcut
   clear HK2 HK2d HBT2 HBT3 HCI HG q0 q1 q2 q3 q4 k0 k1 k2 k3 k4 k5 k6 k7
   obtain ⟨q0, q1, q2, q3, q4, k0, k1, k2, k3, k4, k5, k6, k7⟩ := HCA.out _ HK6.out
   have HK6d := hide HK6.out.drew
   go_upto_region 7 with fail
   go_cut [10, 11] from 112 to 125 (fun a b wx => ∃ ps cs pI cI, a = .slice ps STS.length cs ∧ b = .slice pI INS.length cI ∧ Hid (Lk w wx ⟨a0, c0, a1, is.length, c1, a2, xs.length, c2, a3, bs.length, c3, a4, hs.length, c4⟩ ns is xs bs hs cB n pv cv qs s2 s3 ⟨pi, IL, ci⟩ ⟨pn, NL, cn⟩ ⟨pb, BL, cb⟩ ⟨ph, HL, ch⟩) ∧ Hid (IntsAt wx ps STS ∧ IntsAt wx pI INS))
   case first =>
     go_wp2_with fail
     go_region_held3 (fun w' => w'.cell? ⟨w.heap.size, 0, none⟩ = some (.slice a0 ns.length c0) ∧ w'.cell? ⟨w.heap.size, 1, none⟩ = some (.slice a1 is.length c1) ∧ w'.cell? ⟨w.heap.size, 2, none⟩ = some (.slice a2 xs.length c2) ∧ w'.cell? ⟨w.heap.size, 3, none⟩ = some (.slice a3 bs.length c3) ∧ w'.cell? ⟨w.heap.size, 4, none⟩ = some (.slice a4 hs.length c4) ∧ w'.cell? ⟨cB, 0, none⟩ = some (.int .i64 (n : Nat)) ∧ w'.cell? ⟨cB, 1, none⟩ = some (.slice pv qs.length cv) ∧ w'.cell? ⟨cB, 2, none⟩ = some (.int .i64 s2) ∧ w'.cell? ⟨cB, 3, none⟩ = some (.int .i64 s3) ∧ w'.cell? ⟨cB, 4, none⟩ = some (.slice pi IL.length ci) ∧ w'.cell? ⟨cB, 5, none⟩ = some (.slice pn NL.length cn) ∧ w'.cell? ⟨cB, 6, none⟩ = some (.slice pb bs.length cb) ∧ w'.cell? ⟨cB, 7, none⟩ = some (.slice ph hs.length ch))
       (first
         | with_reducible exact HCA.out _ HK8.out
         | with_reducible exact HCA.out _ HK7.out
         | with_reducible exact HCA.out _ HK6d.out
         | go_keep)
       (first
         | (go_at_call 14; with_reducible refine (HT3.out _).mono ?_; rintro e w' ⟨rfl, rfl⟩)
         | (go_at_call 14; with_reducible refine (HT2.out _).mono ?_; rintro e w' ⟨rfl, rfl⟩)
         | (go_at_call 13; with_reducible refine (HP3.out _).mono ?_; rintro e w' ⟨rfl, rfl⟩)
         | (go_at_call 13; with_reducible refine (HP2.out _).mono ?_; rintro e w' ⟨rfl, rfl⟩)
         | (have _ := HK7; go_at_call 12; with_reducible refine (HW2.out _ HK7.out.bel).mono ?_; rintro e w8 ⟨pI, cI, rfl, hI8, hb8⟩; have HK8 := hide (HK7.out.later hb8); have HS8 := hide (HS7.out.later hb8); have HI8 := hide hI8)
         | (go_at_call 12; with_reducible refine (HW3.out _ HK6d.out.bel).mono ?_; rintro e w7 ⟨ps, cs, rfl, hI7, hb7⟩; have HK7 := hide (HK6d.out.later hb7); have HS7 := hide hI7))
     all_goals go_wp2_with fail
     all_goals go_meet
     all_goals exact ⟨ps, cs, pI, cI, rfl, rfl, HK8, HS8.out, HI8.out⟩
   case rest =>
     obtain ⟨ps, cs, pI, cI, rfl, rfl, HK8, HL8⟩ := hcut
     clear HK6 HK6d HT2 HT3 HP2 HP3 HW2 HW3 q0 q1 q2 q3 q4 k0 k1 k2 k3 k4 k5 k6 k7
     obtain ⟨q0, q1, q2, q3, q4, k0, k1, k2, k3, k4, k5, k6, k7⟩ := HCA.out _ HK8.out
     have HK8d := hide HK8.out.drew
     have HL8d : Hid (IntsAt wc.drew ps STS ∧ IntsAt wc.drew pI INS) := ⟨HL8.out.1.later (Below.refl _ wc).drew, HL8.out.2.later (Below.refl _ wc).drew⟩
     have HBLE : Hid (BI.length + BS.length ≤ 1000) := by
       have h1 := HTF.out.bbn
       have h2 := congrArg List.length HBBQ.out
       rw [List.length_append] at h2
       show BI.length + BS.length ≤ 1000
       omega
     have HNO : Hid (∀ (u : World) (p : Option Addr) (c : Nat), PairsAt u pv qs → Gg.BoolsAt u p bb → (p = none → c = 0) → Calls Tryz.prog 15 #[.agg #[.int .i64 (n : Nat), .slice pv qs.length cv], .slice p bb.length c] u fun e w' => ∃ p2 c2, e = .returned (.slice p2 (Gg.nodesV bb qs qs.length).length c2) ∧ Gg.BoolsAt w' p2 (Gg.nodesV bb qs qs.length) ∧ Below u.heap.size u w') := fun u p c h1 h2 h3 => by
       have h := Gg.nodesOf_any pv cv qs (by have := HTF.out.len; omega) p c bb (by have := HTF.out.bbn; omega) h3 HTF.out.st u h1 h2
       have e : ((bb.length : Nat) : Int) = ((n : Nat) : Int) := by rw [HTF.out.bbn]
       unfold Gg.gval at h
       rw [e] at h
       exact h
     have HAL : Hid ((Gg.nodesV bb qs qs.length).length = 1 + n + qs.length) := by rw [Hid, Gg.nodesV_len, HTF.out.bbn]
     generalize hall : Gg.nodesV bb qs qs.length = ALL at *
     have HALQ := hide hall
     clear hall
     go_upto_region 8 with fail
     go_cut [12] from 126 to 135 (fun a wx => ∃ pA cA, a = .slice pA ALL.length cA ∧ Hid (Lk w wx ⟨a0, c0, a1, is.length, c1, a2, xs.length, c2, a3, bs.length, c3, a4, hs.length, c4⟩ ns is xs bs hs cB n pv cv qs s2 s3 ⟨pi, IL, ci⟩ ⟨pn, NL, cn⟩ ⟨pb, BL, cb⟩ ⟨ph, HL, ch⟩) ∧ Hid (IntsAt wx ps STS ∧ IntsAt wx pI INS ∧ Gg.BoolsAt wx pA ALL))
     case first =>
       go_wp2_with fail
       go_region_held3 (fun w' => w'.cell? ⟨w.heap.size, 0, none⟩ = some (.slice a0 ns.length c0) ∧ w'.cell? ⟨w.heap.size, 1, none⟩ = some (.slice a1 is.length c1) ∧ w'.cell? ⟨w.heap.size, 2, none⟩ = some (.slice a2 xs.length c2) ∧ w'.cell? ⟨w.heap.size, 3, none⟩ = some (.slice a3 bs.length c3) ∧ w'.cell? ⟨w.heap.size, 4, none⟩ = some (.slice a4 hs.length c4) ∧ w'.cell? ⟨cB, 0, none⟩ = some (.int .i64 (n : Nat)) ∧ w'.cell? ⟨cB, 1, none⟩ = some (.slice pv qs.length cv) ∧ w'.cell? ⟨cB, 2, none⟩ = some (.int .i64 s2) ∧ w'.cell? ⟨cB, 3, none⟩ = some (.int .i64 s3) ∧ w'.cell? ⟨cB, 4, none⟩ = some (.slice pi IL.length ci) ∧ w'.cell? ⟨cB, 5, none⟩ = some (.slice pn NL.length cn) ∧ w'.cell? ⟨cB, 6, none⟩ = some (.slice pb bs.length cb) ∧ w'.cell? ⟨cB, 7, none⟩ = some (.slice ph hs.length ch))
         (first
           | with_reducible exact HCA.out _ HK12.out
           | with_reducible exact HCA.out _ HK11.out
           | with_reducible exact HCA.out _ HK10.out
           | with_reducible exact HCA.out _ HK9.out
           | with_reducible exact HCA.out _ HK8d.out
           | go_keep)
         (first
           | (have _ := HK11; go_at_call 15; with_reducible refine (HNO.out _ p3 c3 HK11.out.g HB11.out HN11.out).mono ?_; rintro e w12 ⟨pA, cA, rfl, hA12, hb12⟩; have HK12 := hide (HK11.out.later hb12); have HL12 := hide (And.intro (HL11.out.1.later hb12) (And.intro (HL11.out.2.later hb12) hA12)))
           | (have _ := HK10; refine Gg.step_append_bools rfl (.tmp 130) (.tmp 133) rfl wc.heap.size _ BI (by simp [Act.eval]) HR10.out p2 c2 BS (by simp [Act.eval]) HB10.out HN10.out HBLE.out HSZ10.out ?_; intro v3 w11 hown11 hg11
              have hb11 : Below wc.drew.heap.size wc.drew w11 := HBT10.out.grown hg11 HSZ10.out (fun j hj => (HR10.out.lt j hj).1)
              rw [HBBQ.out] at hown11
              have hx11 := Gg.owns_boolsN hown11
              obtain ⟨p3, c3, rfl, hB11, hN11⟩ := hx11
              have HK11 := hide (HK8d.out.later hb11)
              have HL11 := hide (And.intro (HL8d.out.1.later hb11) (HL8d.out.2.later hb11))
              have HB11 := hide hB11
              have HN11 := hide hN11)
           | (have _ := HK9; go_at_call 16; with_reducible refine (HBS.out _ ps cs HK9.out.bel HL9.out.1).mono ?_; rintro e w10 ⟨v2, rfl, hown10, hb10⟩
              obtain ⟨p2, c2, rfl, hB10, hN10⟩ := Gg.owns_boolsN hown10
              have HK10 := hide (HK9.out.later hb10)
              have HR10 := hide (Gg.owns_below HR9.out hb10)
              have HB10 := hide hB10
              have HN10 := hide hN10
              have HBT10 := hide (bthen HBT9.out hb10)
              have HSZ10 : Hid (wc.heap.size ≤ w10.heap.size) := HBT10.out.size)
           | (go_at_call 16; with_reducible refine (HBI.out _ pI cI HK8d.out.bel HL8d.out.2).mono ?_; rintro e w9 ⟨v1, rfl, hown9, hb9⟩
              have HK9 := hide (HK8d.out.later hb9)
              have HL9 := hide (And.intro (HL8d.out.1.later hb9) (HL8d.out.2.later hb9))
              have HR9 : Hid (w9.ownsRow wc.heap.size 4 1 v1 BI.length (BI.map Value.bool)) := hown9
              have HBT9 := hide hb9))
       all_goals go_wp2_with fail
       all_goals go_meet
       all_goals exact ⟨pA, cA, rfl, HK12, HL12⟩
     case rest =>
       obtain ⟨pA, cA, rfl, HK12, HL12⟩ := hcut
       clear HK8 HK8d HL8 HL8d HBI HBS HNO HBLE q0 q1 q2 q3 q4 k0 k1 k2 k3 k4 k5 k6 k7
       obtain ⟨q0, q1, q2, q3, q4, k0, k1, k2, k3, k4, k5, k6, k7⟩ := HCA.out _ HK12.out
       go_wp2_with fail
       refine (HVO.out _ ps pI cs cI HK12.out.bel HL12.out.1 HL12.out.2.1).mono ?_
       rintro e w13 ⟨gV, rfl, hV, hb13⟩
       have HK13 := hide (HK12.out.later hb13)
       have HL13 : Hid (IntsAt w13 ps STS ∧ Gg.BoolsAt w13 pA ALL ∧ IntsAt w13 (some ⟨gV, 0, none⟩) V) := ⟨HL12.out.1.later hb13, HL12.out.2.2.later hb13, irow_ints hV⟩
       clear hV hb13 HK12 HL12 HVO q0 q1 q2 q3 q4 k0 k1 k2 k3 k4 k5 k6 k7
       obtain ⟨q0, q1, q2, q3, q4, k0, k1, k2, k3, k4, k5, k6, k7⟩ := HCA.out _ HK13.out
       have HK13d := hide HK13.out.drew
       have HL13d : Hid (IntsAt w13.drew ps STS ∧ Gg.BoolsAt w13.drew pA ALL ∧ IntsAt w13.drew (some ⟨gV, 0, none⟩) V) := ⟨HL13.out.1.later (Below.refl _ w13).drew, HL13.out.2.1.later (Below.refl _ w13).drew, HL13.out.2.2.later (Below.refl _ w13).drew⟩
       go_upto_region 10 with fail
       go_cut [14] from 136 to 144 (fun a wx => ∃ pX cX, a = .slice pX NXB.length cX ∧ Hid (Lk w wx ⟨a0, c0, a1, is.length, c1, a2, xs.length, c2, a3, bs.length, c3, a4, hs.length, c4⟩ ns is xs bs hs cB n pv cv qs s2 s3 ⟨pi, IL, ci⟩ ⟨pn, NL, cn⟩ ⟨pb, BL, cb⟩ ⟨ph, HL, ch⟩) ∧ Hid (IntsAt wx ps STS ∧ Gg.BoolsAt wx pA ALL ∧ IntsAt wx (some ⟨gV, 0, none⟩) V ∧ Gg.BoolsAt wx pX NXB))
       case first =>
         go_wp2_with fail
         go_region_held3 (fun w' => w'.cell? ⟨w.heap.size, 0, none⟩ = some (.slice a0 ns.length c0) ∧ w'.cell? ⟨w.heap.size, 1, none⟩ = some (.slice a1 is.length c1) ∧ w'.cell? ⟨w.heap.size, 2, none⟩ = some (.slice a2 xs.length c2) ∧ w'.cell? ⟨w.heap.size, 3, none⟩ = some (.slice a3 bs.length c3) ∧ w'.cell? ⟨w.heap.size, 4, none⟩ = some (.slice a4 hs.length c4) ∧ w'.cell? ⟨cB, 0, none⟩ = some (.int .i64 (n : Nat)) ∧ w'.cell? ⟨cB, 1, none⟩ = some (.slice pv qs.length cv) ∧ w'.cell? ⟨cB, 2, none⟩ = some (.int .i64 s2) ∧ w'.cell? ⟨cB, 3, none⟩ = some (.int .i64 s3) ∧ w'.cell? ⟨cB, 4, none⟩ = some (.slice pi IL.length ci) ∧ w'.cell? ⟨cB, 5, none⟩ = some (.slice pn NL.length cn) ∧ w'.cell? ⟨cB, 6, none⟩ = some (.slice pb bs.length cb) ∧ w'.cell? ⟨cB, 7, none⟩ = some (.slice ph hs.length ch))
           (first
             | with_reducible exact HCA.out _ HK15.out
             | with_reducible exact HCA.out _ HK14.out
             | with_reducible exact HCA.out _ HK13d.out
             | go_keep)
           (first
             | (have _ := HK14; go_at_call 16; with_reducible refine (HBN.out _ pW cW HK14.out.bel HW14.out).mono ?_; rintro e w15 ⟨v1, rfl, hown15, hb15⟩
                obtain ⟨pX, cX, rfl, hX15, _⟩ := Gg.owns_boolsN hown15
                have HK15 := hide (HK14.out.later hb15)
                have HL15 := hide (And.intro (HL14.out.1.later hb15) (And.intro (HL14.out.2.1.later hb15) (And.intro (HL14.out.2.2.later hb15) hX15))))
             | (go_at_call 18; with_reducible refine (HNX.out _ (some ⟨gV, 0, none⟩) ns.length HK13d.out.bel HL13d.out.2.2).mono ?_; rintro e w14 ⟨pW, cW, rfl, hW14, hb14⟩; have HK14 := hide (HK13d.out.later hb14); have HL14 := hide (And.intro (HL13d.out.1.later hb14) (And.intro (HL13d.out.2.1.later hb14) (HL13d.out.2.2.later hb14))); have HW14 := hide hW14))
         all_goals go_wp2_with fail
         all_goals go_meet
         all_goals exact ⟨pX, cX, rfl, HK15, HL15⟩
       case rest =>
         obtain ⟨pX, cX, rfl, HK15, HL15⟩ := hcut
         clear HK13 HK13d HL13 HL13d HBN HNX q0 q1 q2 q3 q4 k0 k1 k2 k3 k4 k5 k6 k7
         obtain ⟨q0, q1, q2, q3, q4, k0, k1, k2, k3, k4, k5, k6, k7⟩ := HCA.out _ HK15.out
         have HK15d := hide HK15.out.drew
         have HL15d : Hid (IntsAt wc.drew ps STS ∧ Gg.BoolsAt wc.drew pA ALL ∧ IntsAt wc.drew (some ⟨gV, 0, none⟩) V ∧ Gg.BoolsAt wc.drew pX NXB) := ⟨HL15.out.1.later (Below.refl _ wc).drew, HL15.out.2.1.later (Below.refl _ wc).drew, HL15.out.2.2.1.later (Below.refl _ wc).drew, HL15.out.2.2.2.later (Below.refl _ wc).drew⟩
         go_upto_region 11 with fail
         go_cut [15] from 145 to 149 (fun a wx => ∃ pG cG, a = .slice pG BGB.length cG ∧ Hid (Lk w wx ⟨a0, c0, a1, is.length, c1, a2, xs.length, c2, a3, bs.length, c3, a4, hs.length, c4⟩ ns is xs bs hs cB n pv cv qs s2 s3 ⟨pi, IL, ci⟩ ⟨pn, NL, cn⟩ ⟨pb, BL, cb⟩ ⟨ph, HL, ch⟩) ∧ Hid (Gg.BoolsAt wx pA ALL ∧ IntsAt wx (some ⟨gV, 0, none⟩) V ∧ Gg.BoolsAt wx pX NXB ∧ Gg.BoolsAt wx pG BGB))
         case first =>
           go_wp2_with fail
           go_region_held3 (fun w' => w'.cell? ⟨w.heap.size, 0, none⟩ = some (.slice a0 ns.length c0) ∧ w'.cell? ⟨w.heap.size, 1, none⟩ = some (.slice a1 is.length c1) ∧ w'.cell? ⟨w.heap.size, 2, none⟩ = some (.slice a2 xs.length c2) ∧ w'.cell? ⟨w.heap.size, 3, none⟩ = some (.slice a3 bs.length c3) ∧ w'.cell? ⟨w.heap.size, 4, none⟩ = some (.slice a4 hs.length c4) ∧ w'.cell? ⟨cB, 0, none⟩ = some (.int .i64 (n : Nat)) ∧ w'.cell? ⟨cB, 1, none⟩ = some (.slice pv qs.length cv) ∧ w'.cell? ⟨cB, 2, none⟩ = some (.int .i64 s2) ∧ w'.cell? ⟨cB, 3, none⟩ = some (.int .i64 s3) ∧ w'.cell? ⟨cB, 4, none⟩ = some (.slice pi IL.length ci) ∧ w'.cell? ⟨cB, 5, none⟩ = some (.slice pn NL.length cn) ∧ w'.cell? ⟨cB, 6, none⟩ = some (.slice pb bs.length cb) ∧ w'.cell? ⟨cB, 7, none⟩ = some (.slice ph hs.length ch))
             (first
               | with_reducible exact HCA.out _ HK17.out
               | with_reducible exact HCA.out _ HK16.out
               | with_reducible exact HCA.out _ HK15d.out
               | go_keep)
             (first
               | (have _ := HK16; go_at_call 16; with_reducible refine (HBB.out _ pW cW HK16.out.bel HW16.out).mono ?_; rintro e w17 ⟨v1, rfl, hown17, hb17⟩
                  obtain ⟨pG, cG, rfl, hG17, _⟩ := Gg.owns_boolsN hown17
                  have HK17 := hide (HK16.out.later hb17)
                  have HL17 := hide (And.intro (HL16.out.1.later hb17) (And.intro (HL16.out.2.1.later hb17) (And.intro (HL16.out.2.2.later hb17) hG17))))
               | (go_at_call 19; with_reducible refine (HBG.out _ ps cs HK15d.out.bel HL15d.out.1).mono ?_; rintro e w16 ⟨pW, cW, rfl, hW16, hb16⟩; have HK16 := hide (HK15d.out.later hb16); have HL16 := hide (And.intro (HL15d.out.2.1.later hb16) (And.intro (HL15d.out.2.2.1.later hb16) (HL15d.out.2.2.2.later hb16))); have HW16 := hide hW16))
           all_goals go_wp2_with fail
           all_goals go_meet
           all_goals exact ⟨pG, cG, rfl, HK17, HL17⟩
         case rest =>
           obtain ⟨pG, cG, rfl, HK17, HL17⟩ := hcut
           have HZ17 : Hid (Lk w wc ⟨a0, c0, a1, is.length, c1, a2, xs.length, c2, a3, bs.length, c3, a4, hs.length, c4⟩ ns is xs bs hs cB n pv cv qs s2 s3 ⟨pi, IL, ci⟩ ⟨pn, NL, cn⟩ ⟨pb, BL, cb⟩ ⟨ph, HL, ch⟩ ∧ Gg.BoolsAt wc pA ALL ∧ IntsAt wc (some ⟨gV, 0, none⟩) V ∧ Gg.BoolsAt wc pX NXB ∧ Gg.BoolsAt wc pG BGB) := ⟨HK17.out, HL17.out⟩
           go_step
           exact tells_mid (by kernel_rfl) w a0 a1 a2 a3 a4 c0 c1 c2 c3 c4 ns is xs bs hs n cB pv cv qs s2 s3 pi IL ci pn NL cn pb BL cb ph HL ch bb NXB BGB V S3 LW ALL pA cA gV pX cX pG cG wc hl80 hlb8 hlh8 hvl hs3 h30 hn16 hQl HTF HAL HALQ HILl HBs HHs HCA HZ17 HNs HND HPO HS3 hS3l
end Go.Proofs.YtabnimgpednhjabGreat
