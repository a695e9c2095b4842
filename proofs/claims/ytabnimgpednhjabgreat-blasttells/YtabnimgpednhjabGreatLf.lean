import Derived.Test.YtabnimgpednhjabGreatLe
import Derived.Deep.RegionHeld3
import Derived.Deep.CutRange
import Derived.Deep.CutBlock
import Derived.Deep.QuietTactic
import Derived.BigQuiet
namespace Go.Proofs.YtabnimgpednhjabGreat
open Go.RowKit Go.Maps
set_option maxRecDepth 100000
set_option maxHeartbeats 16000000 in
theorem tells_mid {code : Code} (hcode : code = (((Tryz.f4.body).bind (findSeq 12)).getD .skip)) {r0 r1 r2 r4 r5 r6 r8 r9 r10 r11 r16 r17 r18 r19 r20 r21 r22 r23 r24 r25 r26 r27 r28 r29 r30 r31 r32 r33 r34 r35 r36 r37 r38 r39 r40 r41 r42 r43 r44 r45 r46 r47 r48 r49 r50 r51 r52 r53 r54 r55 r56 r57 r58 r59 r60 r61 r62 r63 r64 r65 r66 r67 r68 r69 r70 r71 r72 r73 r74 r75 r76 r77 r78 r79 r80 r81 r82 r83 r84 r85 r86 r87 r88 r89 r90 r91 r92 r93 r94 r95 r96 r97 r98 r99 r100 r101 r102 r103 r104 r105 r106 r107 r108 r109 r110 r111 r112 r113 r114 r115 r116 r117 r118 r119 r120 r121 r122 r123 r124 r125 r126 r127 r128 r129 r130 r131 r132 r133 r134 r135 r136 r137 r138 r139 r140 r141 r142 r143 r144 r145 r146 r147 r148 r149 r150 r151 r152 r153 r154 r155 r156 r157 r158 r159 r160 r161 r162 r163 r164 r165 r166 r167 r168 r169 r170 r171 r172 r173 r174 r175 r176 r177 r178 r179 r180 r181 r182 r183 r184 r185 r186 r187 r188 r189 r190 r191 r192 r193 r194 r195 r196 r197 r198 r199 r200 r201 r202 r203 r204 r205 r206 r207 r208 r209 r210 r211 r212 r213 r214 r215 r216 r217 r218 r219 r220 r221 r222 r223 r224 r225 r226 r227 r228 r229 r230 r231 r232 r233 r234 r235 r236 r237 r238 r239 r240 r241 r242 r243 r244 r245 r246 r247 r248 r249 r250 r251 r252 r253 r254 r255 r256 r257 r258 r259 r260 r261 r262 r263 r264 r265 r266 r267 r268 r269 r270 r271 r272 : Value} (w : World) (a0 a1 a2 a3 a4 : Option Addr) (c0 c1 c2 c3 c4 : Nat) (ns : List Nd) (is xs : List (Int × Int)) (bs hs : List Int) (n cB : Nat) (pv : Option Addr) (cv : Nat) (qs : Gg.Gr) (s2 s3 : Int) (pi : Option Addr) (IL : List Int) (ci : Nat) (pn : Option Addr) (NL : List Int) (cn : Nat) (pb : Option Addr) (BL : List Int) (cb : Nat) (ph : Option Addr) (HL : List Int) (ch : Nat) (bb NXB BGB : List Bool) (V S3 : List Int) (LW : Nat → Nat) (ALL : List Bool) (pA : Option Addr) (cA gV : Nat) (pX : Option Addr) (cX : Nat) (pG : Option Addr) (cG : Nat) (wc : World)
   (hl80 : ns.length ≤ 80) (hlb8 : bs.length ≤ 8) (hlh8 : hs.length ≤ 8) (hvl : V.length = ns.length) (hs3 : s3 ≤ 10) (h30 : 0 ≤ s3) (hn16 : n ≤ 16) (hQl : qs.length ≤ 1000000)
   (HTF : Hid (Tfact n qs s2 s3 IL NL BL HL bb NXB BGB bs hs V S3 is (wdOf ns) LW)) (HAL : Hid (ALL.length = 1 + n + qs.length)) (HALQ : Hid (Gg.nodesV bb qs qs.length = ALL)) (HILl : Hid ((IL.length : Int) = s3 ∧ (NL.length : Int) = s3 ∧ BL.length = bs.length ∧ HL.length = hs.length))
   (HBs : Hid (IntsAt w a3 bs)) (HHs : Hid (IntsAt w a4 hs)) (HCA : Hid (∀ w', Lk w w' ⟨a0, c0, a1, is.length, c1, a2, xs.length, c2, a3, bs.length, c3, a4, hs.length, c4⟩ ns is xs bs hs cB n pv cv qs s2 s3 ⟨pi, IL, ci⟩ ⟨pn, NL, cn⟩ ⟨pb, BL, cb⟩ ⟨ph, HL, ch⟩ → w'.cell? ⟨w.heap.size, 0, none⟩ = some (.slice a0 ns.length c0) ∧ w'.cell? ⟨w.heap.size, 1, none⟩ = some (.slice a1 is.length c1) ∧ w'.cell? ⟨w.heap.size, 2, none⟩ = some (.slice a2 xs.length c2) ∧ w'.cell? ⟨w.heap.size, 3, none⟩ = some (.slice a3 bs.length c3) ∧ w'.cell? ⟨w.heap.size, 4, none⟩ = some (.slice a4 hs.length c4) ∧ w'.cell? ⟨cB, 0, none⟩ = some (.int .i64 (n : Nat)) ∧ w'.cell? ⟨cB, 1, none⟩ = some (.slice pv qs.length cv) ∧ w'.cell? ⟨cB, 2, none⟩ = some (.int .i64 s2) ∧ w'.cell? ⟨cB, 3, none⟩ = some (.int .i64 s3) ∧ w'.cell? ⟨cB, 4, none⟩ = some (.slice pi IL.length ci) ∧ w'.cell? ⟨cB, 5, none⟩ = some (.slice pn NL.length cn) ∧ w'.cell? ⟨cB, 6, none⟩ = some (.slice pb bs.length cb) ∧ w'.cell? ⟨cB, 7, none⟩ = some (.slice ph hs.length ch)))
   (HZ17 : Hid (Lk w wc ⟨a0, c0, a1, is.length, c1, a2, xs.length, c2, a3, bs.length, c3, a4, hs.length, c4⟩ ns is xs bs hs cB n pv cv qs s2 s3 ⟨pi, IL, ci⟩ ⟨pn, NL, cn⟩ ⟨pb, BL, cb⟩ ⟨ph, HL, ch⟩ ∧ Gg.BoolsAt wc pA ALL ∧ IntsAt wc (some ⟨gV, 0, none⟩) V ∧ Gg.BoolsAt wc pX NXB ∧ Gg.BoolsAt wc pG BGB))
   (HNs : Hid (NodesAt w a0 ns))
   (HND : Hid (∀ w', Below w.heap.size w w' → Calls Tryz.prog 21 #[Mv.val ⟨a0, c0, a1, is.length, c1, a2, xs.length, c2, a3, bs.length, c3, a4, hs.length, c4⟩ ns.length, .int .i64 3] w' fun e w'' => ∃ p cap, e = .returned (.slice p S3.length cap) ∧ IntsAt w'' p S3 ∧ Below w'.heap.size w' w''))
   (HPO : Hid (∀ (s : Int) (w' : World), Below w.heap.size w w' → Calls Tryz.prog 22 #[.slice a1 is.length c1, .int .i64 s] w' fun e w'' => e = .returned (.int .i64 (pairOf s is)) ∧ w'' = w'))
   (HS3 : Hid (∀ x ∈ S3, 0 ≤ x ∧ x < ns.length ∧ 1 ≤ wdOf ns x ∧ wdOf ns x ≤ 8)) (hS3l : S3.length ≤ ns.length) :
   Code.wp Tryz.prog code (bodyPost Tryz.prog Tryz.f4 fun e w' => e = .returned (.bool true) ∧ Below w.heap.size w w') ⟨#[r0, r1, r2, .pointer (some ⟨w.heap.size, 0, none⟩), r4, r5, r6, .pointer (some ⟨cB, 0, none⟩), r8, r9, r10, r11, .slice pA ALL.length cA, .slice (some ⟨gV, 0, none⟩) ns.length ns.length, .slice pX NXB.length cX, .slice pG BGB.length cG, r16, r17, r18, r19, r20, r21, r22, r23, r24, r25, r26, r27, r28, r29, r30, r31, r32, r33, r34, r35, r36, r37, r38, r39, r40, r41, r42, r43, r44, r45, r46, r47, r48, r49, r50, r51, r52, r53, r54, r55, r56, r57, r58, r59, r60, r61, r62, r63, r64, r65, r66, r67, r68, r69, r70, r71, r72, r73, r74, r75, r76, r77, r78, r79, r80, r81, r82, r83, r84, r85, r86, r87, r88, r89, r90, r91, r92, r93, r94, r95, r96, r97, r98, r99, r100, r101, r102, r103, r104, r105, r106, r107, r108, r109, r110, r111, r112, r113, r114, r115, r116, r117, r118, r119, r120, r121, r122, r123, r124, r125, r126, r127, r128, r129, r130, r131, r132, r133, r134, r135, r136, r137, r138, r139, r140, r141, r142, r143, r144, r145, r146, r147, r148, r149, r150, r151, r152, r153, r154, r155, r156, r157, r158, r159, r160, r161, r162, r163, r164, r165, r166, r167, r168, r169, r170, r171, r172, r173, r174, r175, r176, r177, r178, r179, r180, r181, r182, r183, r184, r185, r186, r187, r188, r189, r190, r191, r192, r193, r194, r195, r196, r197, r198, r199, r200, r201, r202, r203, r204, r205, r206, r207, r208, r209, r210, r211, r212, r213, r214, r215, r216, r217, r218, r219, r220, r221, r222, r223, r224, r225, r226, r227, r228, r229, r230, r231, r232, r233, r234, r235, r236, r237, r238, r239, r240, r241, r242, r243, r244, r245, r246, r247, r248, r249, r250, r251, r252, r253, r254, r255, r256, r257, r258, r259, r260, r261, r262, r263, r264, r265, r266, r267, r268, r269, r270, r271, r272], []⟩ wc := by
 subst hcode
 conv => arg 2; whnf
 dsimp only
 have HZB : Hid (∀ u u', (Lk w u ⟨a0, c0, a1, is.length, c1, a2, xs.length, c2, a3, bs.length, c3, a4, hs.length, c4⟩ ns is xs bs hs cB n pv cv qs s2 s3 ⟨pi, IL, ci⟩ ⟨pn, NL, cn⟩ ⟨pb, BL, cb⟩ ⟨ph, HL, ch⟩ ∧ Gg.BoolsAt u pA ALL ∧ IntsAt u (some ⟨gV, 0, none⟩) V ∧ Gg.BoolsAt u pX NXB ∧ Gg.BoolsAt u pG BGB) → Below u.heap.size u u' → (Lk w u' ⟨a0, c0, a1, is.length, c1, a2, xs.length, c2, a3, bs.length, c3, a4, hs.length, c4⟩ ns is xs bs hs cB n pv cv qs s2 s3 ⟨pi, IL, ci⟩ ⟨pn, NL, cn⟩ ⟨pb, BL, cb⟩ ⟨ph, HL, ch⟩ ∧ Gg.BoolsAt u' pA ALL ∧ IntsAt u' (some ⟨gV, 0, none⟩) V ∧ Gg.BoolsAt u' pX NXB ∧ Gg.BoolsAt u' pG BGB)) := fun u u' h hb => ⟨h.1.later (hb), h.2.1.later (hb), h.2.2.1.later (hb), h.2.2.2.1.later (hb), h.2.2.2.2.later (hb)⟩
 have HZD : Hid (∀ u, (Lk w u ⟨a0, c0, a1, is.length, c1, a2, xs.length, c2, a3, bs.length, c3, a4, hs.length, c4⟩ ns is xs bs hs cB n pv cv qs s2 s3 ⟨pi, IL, ci⟩ ⟨pn, NL, cn⟩ ⟨pb, BL, cb⟩ ⟨ph, HL, ch⟩ ∧ Gg.BoolsAt u pA ALL ∧ IntsAt u (some ⟨gV, 0, none⟩) V ∧ Gg.BoolsAt u pX NXB ∧ Gg.BoolsAt u pG BGB) → (Lk w u.drew ⟨a0, c0, a1, is.length, c1, a2, xs.length, c2, a3, bs.length, c3, a4, hs.length, c4⟩ ns is xs bs hs cB n pv cv qs s2 s3 ⟨pi, IL, ci⟩ ⟨pn, NL, cn⟩ ⟨pb, BL, cb⟩ ⟨ph, HL, ch⟩ ∧ Gg.BoolsAt u.drew pA ALL ∧ IntsAt u.drew (some ⟨gV, 0, none⟩) V ∧ Gg.BoolsAt u.drew pX NXB ∧ Gg.BoolsAt u.drew pG BGB)) := fun u h => HZB.out u u.drew h (Below.refl _ u).drew
 have HLO := hide (fun (x : Int) (h0 : 0 ≤ x) (h1 : x < 2 * (1 + (n : Int) + qs.length)) (u : World) (hb : Gg.BoolsAt u pA ALL) => Gg.litOf_any ALL pA cA x h0 (by rw [HAL.out]; omega) (by rw [HAL.out]; omega) u hb)
 have HNL := hide HILl.out.2.1
 obtain ⟨q0, q1, q2, q3, q4, k0, k1, k2, k3, k4, k5, k6, k7⟩ := HCA.out _ HZ17.out.1
 go_wp2_with fail
 clear q0 q1 q2 q3 q4 k0 k1 k2 k3 k4 k5 k6 k7
 go_loopw [16] (fun i wr => ∃ k : Nat, k ≤ NL.length ∧ i = .int .i64 k ∧ Hid (Lk w wr ⟨a0, c0, a1, is.length, c1, a2, xs.length, c2, a3, bs.length, c3, a4, hs.length, c4⟩ ns is xs bs hs cB n pv cv qs s2 s3 ⟨pi, IL, ci⟩ ⟨pn, NL, cn⟩ ⟨pb, BL, cb⟩ ⟨ph, HL, ch⟩ ∧ Gg.BoolsAt wr pA ALL ∧ IntsAt wr (some ⟨gV, 0, none⟩) V ∧ Gg.BoolsAt wr pX NXB ∧ Gg.BoolsAt wr pG BGB)) (fun i _ => NL.length - (intOf i).toNat)
 case atStart => exact ⟨0, Nat.zero_le _, rfl, HZ17⟩
 case round =>
 clear HZ17
 obtain ⟨k, hk, rfl, HZ⟩ := hrel
 obtain ⟨q0, q1, q2, q3, q4, k0, k1, k2, k3, k4, k5, k6, k7⟩ := HCA.out _ HZ.out.1
 have hnl : ((NL.length : Nat) : Int) = s3 := HNL.out
 by_cases hlt : k < NL.length
 · have h2 : k < NXB.length := by rw [HTF.out.nxl]; exact hlt
   obtain ⟨v0, v1, v2⟩ := HTF.out.nx k hlt h2
   have hks : (k : Int) < s3 := by omega
   have hkx : (k : Int) < (NXB.length : Int) := by omega
   have hkn : (k : Int) < (NL.length : Int) := by omega
   obtain ⟨nb, no, hpn, hx1⟩ := HZ.out.1.lx (show 0 < NL.length by omega)
   obtain ⟨xb, xo, hpx, hx2⟩ := HZ.out.2.2.2.1 (show 0 < NXB.length by omega)
   have x0 := hx1 k hlt
   have y0 := hx2 k h2
   simp only at hpn x0
   subst hpn
   subst hpx
   clear hx1 hx2
   have HLX := hide (HLO.out NL[k] v0 v1)
   rw [HALQ.out] at v2
   rw [v2] at HLX
   have HZd := hide (HZD.out _ HZ.out)
   clear v0 v1 v2
   generalize NL[k] = nl at *
   generalize NXB[k] = nx at *
   go_wp2_with fail
   go_region_held3 (fun w' => w' = wr.drew) (first | rfl | go_keep) ((go_at_call 20; with_reducible refine (HLX.out _ HZd.out.2.1).mono ?_; rintro e w' ⟨rfl, rfl⟩))
   go_wp2_with fail
   go_roundw
   case rel => exact ⟨k + 1, by omega, by go_num, HZd⟩
   case measure => simp [intOf]; omega
 · have hks : ¬ (k : Int) < s3 := by omega
   go_wp2_with fail
   refine (HND.out _ HZ.out.1.bel).mono ?_
   rintro e w20 ⟨pS, cS, rfl, hS20, hb20⟩
   have HZ20 : Hid ((Lk w w20 ⟨a0, c0, a1, is.length, c1, a2, xs.length, c2, a3, bs.length, c3, a4, hs.length, c4⟩ ns is xs bs hs cB n pv cv qs s2 s3 ⟨pi, IL, ci⟩ ⟨pn, NL, cn⟩ ⟨pb, BL, cb⟩ ⟨ph, HL, ch⟩ ∧ Gg.BoolsAt w20 pA ALL ∧ IntsAt w20 (some ⟨gV, 0, none⟩) V ∧ Gg.BoolsAt w20 pX NXB ∧ Gg.BoolsAt w20 pG BGB) ∧ IntsAt w20 pS S3) := ⟨HZB.out _ _ HZ.out hb20, hS20⟩
   clear hks hlt hk hS20 hb20 HZ HND q0 q1 q2 q3 q4 k0 k1 k2 k3 k4 k5 k6 k7
   have HZE : Hid (∀ u, ((Lk w u ⟨a0, c0, a1, is.length, c1, a2, xs.length, c2, a3, bs.length, c3, a4, hs.length, c4⟩ ns is xs bs hs cB n pv cv qs s2 s3 ⟨pi, IL, ci⟩ ⟨pn, NL, cn⟩ ⟨pb, BL, cb⟩ ⟨ph, HL, ch⟩ ∧ Gg.BoolsAt u pA ALL ∧ IntsAt u (some ⟨gV, 0, none⟩) V ∧ Gg.BoolsAt u pX NXB ∧ Gg.BoolsAt u pG BGB) ∧ IntsAt u pS S3) → ((Lk w u.drew ⟨a0, c0, a1, is.length, c1, a2, xs.length, c2, a3, bs.length, c3, a4, hs.length, c4⟩ ns is xs bs hs cB n pv cv qs s2 s3 ⟨pi, IL, ci⟩ ⟨pn, NL, cn⟩ ⟨pb, BL, cb⟩ ⟨ph, HL, ch⟩ ∧ Gg.BoolsAt u.drew pA ALL ∧ IntsAt u.drew (some ⟨gV, 0, none⟩) V ∧ Gg.BoolsAt u.drew pX NXB ∧ Gg.BoolsAt u.drew pG BGB) ∧ IntsAt u.drew pS S3)) := fun u h => ⟨HZD.out _ h.1, h.2.later (Below.refl _ u).drew⟩
   have HZN : Hid (∀ u dn, ((Lk w u ⟨a0, c0, a1, is.length, c1, a2, xs.length, c2, a3, bs.length, c3, a4, hs.length, c4⟩ ns is xs bs hs cB n pv cv qs s2 s3 ⟨pi, IL, ci⟩ ⟨pn, NL, cn⟩ ⟨pb, BL, cb⟩ ⟨ph, HL, ch⟩ ∧ Gg.BoolsAt u pA ALL ∧ IntsAt u (some ⟨gV, 0, none⟩) V ∧ Gg.BoolsAt u pX NXB ∧ Gg.BoolsAt u pG BGB) ∧ IntsAt u pS S3) → ((Lk w (u.drewN dn) ⟨a0, c0, a1, is.length, c1, a2, xs.length, c2, a3, bs.length, c3, a4, hs.length, c4⟩ ns is xs bs hs cB n pv cv qs s2 s3 ⟨pi, IL, ci⟩ ⟨pn, NL, cn⟩ ⟨pb, BL, cb⟩ ⟨ph, HL, ch⟩ ∧ Gg.BoolsAt (u.drewN dn) pA ALL ∧ IntsAt (u.drewN dn) (some ⟨gV, 0, none⟩) V ∧ Gg.BoolsAt (u.drewN dn) pX NXB ∧ Gg.BoolsAt (u.drewN dn) pG BGB) ∧ IntsAt (u.drewN dn) pS S3)) := fun u dn h => ⟨HZB.out _ _ h.1 (below_drewN (Below.refl _ u) dn), h.2.later (below_drewN (Below.refl _ u) dn)⟩
   have HL0 := hide HTF.out.lw0
   have HLWL := hide HTF.out.lwl
   obtain ⟨q0, q1, q2, q3, q4, k0, k1, k2, k3, k4, k5, k6, k7⟩ := HCA.out _ HZ20.out.1.1
   go_upto_block 2 with fail
   clear q0 q1 q2 q3 q4 k0 k1 k2 k3 k4 k5 k6 k7
   go_cut [] from 16 to 272 (fun wx => Hid (Lk w wx ⟨a0, c0, a1, is.length, c1, a2, xs.length, c2, a3, bs.length, c3, a4, hs.length, c4⟩ ns is xs bs hs cB n pv cv qs s2 s3 ⟨pi, IL, ci⟩ ⟨pn, NL, cn⟩ ⟨pb, BL, cb⟩ ⟨ph, HL, ch⟩ ∧ Gg.BoolsAt wx pA ALL ∧ IntsAt wx (some ⟨gV, 0, none⟩) V ∧ Gg.BoolsAt wx pX NXB ∧ Gg.BoolsAt wx pG BGB))
   case rest =>
     go_step
     exact tells_end (by kernel_rfl) w a0 a1 a2 a3 a4 c0 c1 c2 c3 c4 ns is xs bs hs n cB pv cv qs s2 s3 pi IL ci pn NL cn pb BL cb ph HL ch bb NXB BGB V S3 LW ALL pA cA gV pX cX pG cG wc hl80 hlb8 hlh8 hvl hs3 h30 hn16 hQl HTF HAL HALQ HILl HBs HHs HCA hcut
   case first =>
   go_wp2_with fail
   go_loopw [17, 19] (fun t i wr => ∃ k : Nat, k ≤ S3.length ∧ i = .int .i64 k ∧ t = .int .i64 (LW k : Nat) ∧ Hid ((Lk w wr ⟨a0, c0, a1, is.length, c1, a2, xs.length, c2, a3, bs.length, c3, a4, hs.length, c4⟩ ns is xs bs hs cB n pv cv qs s2 s3 ⟨pi, IL, ci⟩ ⟨pn, NL, cn⟩ ⟨pb, BL, cb⟩ ⟨ph, HL, ch⟩ ∧ Gg.BoolsAt wr pA ALL ∧ IntsAt wr (some ⟨gV, 0, none⟩) V ∧ Gg.BoolsAt wr pX NXB ∧ Gg.BoolsAt wr pG BGB) ∧ IntsAt wr pS S3)) (fun _ i _ => S3.length - (intOf i).toNat)
   case atStart => exact ⟨0, Nat.zero_le _, rfl, by rw [HL0.out]; rfl, HZ20⟩
   case round =>
   clear HZ20
   obtain ⟨k, hk, rfl, rfl, HZ⟩ := hrel
   obtain ⟨q0, q1, q2, q3, q4, k0, k1, k2, k3, k4, k5, k6, k7⟩ := HCA.out _ HZ.out.1.1
   by_cases hlt : k < S3.length
   · have hkl : (k : Int) < (S3.length : Int) := by omega
     obtain ⟨sb, so, hpS, hcS⟩ := HZ.out.2 (show 0 < S3.length by omega)
     have s0 := hcS k hlt
     subst hpS
     clear hcS
     obtain ⟨z0, z1, wd0, wd1⟩ := HS3.out S3[k] (List.getElem_mem hlt)
     have HINI := hide (HTF.out.ini k hlt)
     have HLS := hide (HTF.out.lws k hlt)
     obtain ⟨nb, no, hpN, hnc⟩ := HNs.out (show 0 < ns.length by omega)
     have HN1 := hide (kd_wd hnc S3[k] z0 z1).2
     have HNC : Hid (∀ u, Below w.heap.size w u → u.cell? ⟨nb, no + S3[k].toNat * 6 + 1, none⟩ = some (.int .i64 (wdOf ns S3[k]))) := fun u hb => cell_later hb HN1.out
     clear hnc HN1
     subst hpN
     have HSC : Hid (∀ u : World, IntsAt u (some ⟨sb, so, none⟩) S3 → u.cell? ⟨sb, so + k, none⟩ = some (.int .i64 S3[k])) := fun u h => by
       obtain ⟨b', o', e', hc⟩ := h (by omega)
       cases e'
       exact hc k hlt
     have HZd := hide (HZE.out _ HZ.out)
     have HPC := hide (HPO.out S3[k] _ HZd.out.1.1.bel)
     generalize pairOf S3[k] is = pr at *
     generalize wdOf ns S3[k] = wd at *
     generalize S3[k] = sk at *
     obtain ⟨wn, hwn⟩ : ∃ wn : Nat, wd.toNat = wn := ⟨_, rfl⟩
     rw [hwn] at HLS HINI
     have hwd : wd = (wn : Int) := by omega
     go_wp2_with fail
     go_region_held3 (fun w' => w' = wr.drew) (first | rfl | go_keep) ((go_at_call 22; with_reducible refine (HPC.out).mono ?_; rintro e w' ⟨rfl, rfl⟩))
     go_wp2_with fail
     clear HPC HZ q0 q1 q2 q3 q4 k0 k1 k2 k3 k4 k5 k6 k7 s0
     generalize hfr : decide (pr < 0) = fr at *
     cases fr
     · have hpr : ¬ pr < 0 := of_decide_eq_false hfr
       clear hfr
       go_loopw [17, 21] (fun t i wr => ∃ j : Nat, j ≤ wn ∧ i = .int .i64 j ∧ t = .int .i64 (LW k + j : Nat) ∧ Hid ((Lk w wr ⟨some ⟨nb, no, none⟩, c0, a1, is.length, c1, a2, xs.length, c2, a3, bs.length, c3, a4, hs.length, c4⟩ ns is xs bs hs cB n pv cv qs s2 s3 ⟨pi, IL, ci⟩ ⟨pn, NL, cn⟩ ⟨pb, BL, cb⟩ ⟨ph, HL, ch⟩ ∧ Gg.BoolsAt wr pA ALL ∧ IntsAt wr (some ⟨gV, 0, none⟩) V ∧ Gg.BoolsAt wr pX NXB ∧ Gg.BoolsAt wr pG BGB) ∧ IntsAt wr (some ⟨sb, so, none⟩) S3)) (fun _ i _ => wn - (intOf i).toNat)
       case atStart => exact ⟨0, Nat.zero_le _, rfl, rfl, HZd⟩
       case round =>
       clear HZd
       obtain ⟨j, hj, rfl, rfl, HZ⟩ := hrel
       obtain ⟨q0, q1, q2, q3, q4, k0, k1, k2, k3, k4, k5, k6, k7⟩ := HCA.out _ HZ.out.1.1
       have s0 := HSC.out _ HZ.out.2
       have n1 := HNC.out _ HZ.out.1.1.bel
       by_cases hjl : j < wn
       · have hjw : (j : Int) < wd := by omega
         obtain ⟨h1, h2, hv⟩ := HINI.out j (by omega)
         obtain ⟨ib, io, hpi, hi1⟩ := HZ.out.1.1.li (show 0 < IL.length by omega)
         have x0 := hi1 _ h1
         simp only at hpi x0
         subst hpi
         obtain ⟨gb, go, hpg, hg1⟩ := HZ.out.1.2.2.2.2 (show 0 < BGB.length by omega)
         have y0 := hg1 _ h2
         subst hpg
         clear hi1 hg1
         have HZd := hide (HZE.out _ HZ.out)
         have HZdd := hide (HZE.out _ HZd.out)
         have h1i : ((LW k + j : Nat) : Int) < (IL.length : Int) := by omega
         have h2i : ((LW k + j : Nat) : Int) < (BGB.length : Int) := by omega
         have hl16 : LW k + j ≤ 16 := by have h5 := HILl.out.1; omega
         have hvv : (IL[LW k + j] = 0 ∨ IL[LW k + j] = 1) ∧ Gg.litV (Gg.nodesV bb qs qs.length) IL[LW k + j] = BGB[LW k + j] := by
           rcases hv with ⟨h, _⟩ | ⟨_, h⟩
           · omega
           · exact h
         clear hv
         obtain ⟨hv, hvl⟩ := hvv
         have HLX := hide (HLO.out IL[LW k + j] (by omega) (by omega))
         rw [HALQ.out] at hvl
         rw [hvl] at HLX
         clear hvl
         generalize IL[LW k + j] = il at *
         generalize BGB[LW k + j] = bg at *
         generalize hlk : LW k + j = lk at *
         have HLK := hide hlk
         clear hlk
         rcases hv with rfl | rfl
         all_goals
           go_wp2_with fail
           go_region_held3 (fun w' => w' = wr.drew) (first | rfl | go_keep) (fail)
           go_wp2_with fail
           go_region_held3 (fun w' => w' = wr.drew.drew) (first | rfl | go_keep) ((go_at_call 20; with_reducible refine (HLX.out _ HZdd.out.1.2.1).mono ?_; rintro e w' ⟨rfl, rfl⟩))
           go_wp2_with fail
           go_roundw
           case rel => exact ⟨j + 1, by omega, by go_num, by have h5 := HILl.out.1; have hq := HLK.out; rw [show LW k + (j + 1) = lk + 1 by omega]; go_num, HZdd⟩
           case measure => simp [intOf]; omega
       · have hjw : ¬ (j : Int) < wd := by omega
         obtain rfl : j = wn := by omega
         go_wp2_with fail
         go_region_held3 (fun w' => w' = wr.drew) (first | rfl | go_keep) (fail)
         go_wp2_with fail
         go_roundw
         case rel => exact ⟨k + 1, by omega, by go_num, by rw [HLS.out, Int.natCast_add], HZE.out _ HZ.out⟩
         case measure => simp [intOf]; omega
     · have hpr : pr < 0 := of_decide_eq_true hfr
       clear hfr
       go_loopw [17, 21] (fun t i wr => ∃ j : Nat, j ≤ wn ∧ i = .int .i64 j ∧ t = .int .i64 (LW k + j : Nat) ∧ Hid ((Lk w wr ⟨some ⟨nb, no, none⟩, c0, a1, is.length, c1, a2, xs.length, c2, a3, bs.length, c3, a4, hs.length, c4⟩ ns is xs bs hs cB n pv cv qs s2 s3 ⟨pi, IL, ci⟩ ⟨pn, NL, cn⟩ ⟨pb, BL, cb⟩ ⟨ph, HL, ch⟩ ∧ Gg.BoolsAt wr pA ALL ∧ IntsAt wr (some ⟨gV, 0, none⟩) V ∧ Gg.BoolsAt wr pX NXB ∧ Gg.BoolsAt wr pG BGB) ∧ IntsAt wr (some ⟨sb, so, none⟩) S3)) (fun _ i _ => wn - (intOf i).toNat)
       case atStart => exact ⟨0, Nat.zero_le _, rfl, rfl, HZd⟩
       case round =>
       clear HZd
       obtain ⟨j, hj, rfl, rfl, HZ⟩ := hrel
       obtain ⟨q0, q1, q2, q3, q4, k0, k1, k2, k3, k4, k5, k6, k7⟩ := HCA.out _ HZ.out.1.1
       have s0 := HSC.out _ HZ.out.2
       have n1 := HNC.out _ HZ.out.1.1.bel
       by_cases hjl : j < wn
       · have hjw : (j : Int) < wd := by omega
         obtain ⟨h1, h2, hv⟩ := HINI.out j (by omega)
         obtain ⟨ib, io, hpi, hi1⟩ := HZ.out.1.1.li (show 0 < IL.length by omega)
         have x0 := hi1 _ h1
         simp only at hpi x0
         subst hpi
         obtain ⟨gb, go, hpg, hg1⟩ := HZ.out.1.2.2.2.2 (show 0 < BGB.length by omega)
         have y0 := hg1 _ h2
         subst hpg
         clear hi1 hg1
         have HZd := hide (HZE.out _ HZ.out)
         have HZdd := hide (HZE.out _ HZd.out)
         have h1i : ((LW k + j : Nat) : Int) < (IL.length : Int) := by omega
         have h2i : ((LW k + j : Nat) : Int) < (BGB.length : Int) := by omega
         have hl16 : LW k + j ≤ 16 := by have h5 := HILl.out.1; omega
         have hil : IL[LW k + j] = -1 := by
           rcases hv with ⟨_, h⟩ | ⟨h, _⟩
           · exact h
           · omega
         clear hv
         generalize IL[LW k + j] = il at *
         generalize BGB[LW k + j] = bg at *
         generalize hlk : LW k + j = lk at *
         have HLK := hide hlk
         clear hlk
         subst hil
         go_wp2_with fail
         go_region_held3 (fun w' => w' = wr.drew) (first | rfl | go_keep) (fail)
         go_wp2_with fail
         go_quiet (fail)
         go_wp2_with fail
         go_roundw
         case rel => exact ⟨j + 1, by omega, by go_num, by have h5 := HILl.out.1; have hq := HLK.out; rw [show LW k + (j + 1) = lk + 1 by omega]; go_num, by first | exact HZN.out _ _ (HZE.out _ HZ.out) | exact HZN.out _ _ HZ.out⟩
         case measure => simp [intOf]; omega
       · have hjw : ¬ (j : Int) < wd := by omega
         obtain rfl : j = wn := by omega
         go_wp2_with fail
         go_region_held3 (fun w' => w' = wr.drew) (first | rfl | go_keep) (fail)
         go_wp2_with fail
         go_roundw
         case rel => exact ⟨k + 1, by omega, by go_num, by rw [HLS.out, Int.natCast_add], HZE.out _ HZ.out⟩
         case measure => simp [intOf]; omega
   · have hkl : ¬ (k : Int) < (S3.length : Int) := by omega
     go_wp2_with fail
     go_meet
     exact hide HZ.out.1
end Go.Proofs.YtabnimgpednhjabGreat
