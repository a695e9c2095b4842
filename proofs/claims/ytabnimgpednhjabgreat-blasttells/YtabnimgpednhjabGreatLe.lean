import Derived.Test.YtabnimgpednhjabGreatLcM
import Derived.Deep.RegionHeld3
import Derived.Deep.CutRange
import Derived.Deep.QuietTactic
import Derived.BigQuiet
namespace Go.Proofs.YtabnimgpednhjabGreat
open Go.RowKit Go.Maps
set_option maxRecDepth 100000
def opensWith (n : Nat) : Code → Bool
 | .region m _ _ => m == n
 | .seq a _ => opensWith n a
 | _ => false
def findSeq (n : Nat) : Code → Option Code
 | .seq a b => if opensWith n a then some (.seq a b) else match findSeq n a with | some c => some c | none => findSeq n b
 | .block _ b => findSeq n b
 | .cond _ t e => match findSeq n t with | some c => some c | none => findSeq n e
 | .loop b => findSeq n b
 | _ => none
set_option maxHeartbeats 16000000 in
theorem tells_end {code : Code} (hcode : code = (((Tryz.f4.body).bind (findSeq 29)).getD .skip)) {r0 r1 r2 r4 r5 r6 r8 r9 r10 r11 r14 r15 r16 r17 r18 r19 r20 r21 r22 r23 r24 r25 r26 r27 r28 r29 r30 r31 r32 r33 r34 r35 r36 r37 r38 r39 r40 r41 r42 r43 r44 r45 r46 r47 r48 r49 r50 r51 r52 r53 r54 r55 r56 r57 r58 r59 r60 r61 r62 r63 r64 r65 r66 r67 r68 r69 r70 r71 r72 r73 r74 r75 r76 r77 r78 r79 r80 r81 r82 r83 r84 r85 r86 r87 r88 r89 r90 r91 r92 r93 r94 r95 r96 r97 r98 r99 r100 r101 r102 r103 r104 r105 r106 r107 r108 r109 r110 r111 r112 r113 r114 r115 r116 r117 r118 r119 r120 r121 r122 r123 r124 r125 r126 r127 r128 r129 r130 r131 r132 r133 r134 r135 r136 r137 r138 r139 r140 r141 r142 r143 r144 r145 r146 r147 r148 r149 r150 r151 r152 r153 r154 r155 r156 r157 r158 r159 r160 r161 r162 r163 r164 r165 r166 r167 r168 r169 r170 r171 r172 r173 r174 r175 r176 r177 r178 r179 r180 r181 r182 r183 r184 r185 r186 r187 r188 r189 r190 r191 r192 r193 r194 r195 r196 r197 r198 r199 r200 r201 r202 r203 r204 r205 r206 r207 r208 r209 r210 r211 r212 r213 r214 r215 r216 r217 r218 r219 r220 r221 r222 r223 r224 r225 r226 r227 r228 r229 r230 r231 r232 r233 r234 r235 r236 r237 r238 r239 r240 r241 r242 r243 r244 r245 r246 r247 r248 r249 r250 r251 r252 r253 r254 r255 r256 r257 r258 r259 r260 r261 r262 r263 r264 r265 r266 r267 r268 r269 r270 r271 r272 : Value} (w : World) (a0 a1 a2 a3 a4 : Option Addr) (c0 c1 c2 c3 c4 : Nat) (ns : List Nd) (is xs : List (Int × Int)) (bs hs : List Int) (n cB : Nat) (pv : Option Addr) (cv : Nat) (qs : Gg.Gr) (s2 s3 : Int) (pi : Option Addr) (IL : List Int) (ci : Nat) (pn : Option Addr) (NL : List Int) (cn : Nat) (pb : Option Addr) (BL : List Int) (cb : Nat) (ph : Option Addr) (HL : List Int) (ch : Nat) (bb NXB BGB : List Bool) (V S3 : List Int) (LW : Nat → Nat) (ALL : List Bool) (pA : Option Addr) (cA gV : Nat) (pX : Option Addr) (_cX : Nat) (pG : Option Addr) (_cG : Nat) (wc : World)
   (hl80 : ns.length ≤ 80) (hlb8 : bs.length ≤ 8) (hlh8 : hs.length ≤ 8) (hvl : V.length = ns.length) (_hs3 : s3 ≤ 10) (_h30 : 0 ≤ s3) (hn16 : n ≤ 16) (hQl : qs.length ≤ 1000000)
   (HTF : Hid (Tfact n qs s2 s3 IL NL BL HL bb NXB BGB bs hs V S3 is (wdOf ns) LW)) (HAL : Hid (ALL.length = 1 + n + qs.length)) (HALQ : Hid (Gg.nodesV bb qs qs.length = ALL)) (_HILl : Hid ((IL.length : Int) = s3 ∧ (NL.length : Int) = s3 ∧ BL.length = bs.length ∧ HL.length = hs.length))
   (HBs : Hid (IntsAt w a3 bs)) (HHs : Hid (IntsAt w a4 hs)) (HCA : Hid (∀ w', Lk w w' ⟨a0, c0, a1, is.length, c1, a2, xs.length, c2, a3, bs.length, c3, a4, hs.length, c4⟩ ns is xs bs hs cB n pv cv qs s2 s3 ⟨pi, IL, ci⟩ ⟨pn, NL, cn⟩ ⟨pb, BL, cb⟩ ⟨ph, HL, ch⟩ → w'.cell? ⟨w.heap.size, 0, none⟩ = some (.slice a0 ns.length c0) ∧ w'.cell? ⟨w.heap.size, 1, none⟩ = some (.slice a1 is.length c1) ∧ w'.cell? ⟨w.heap.size, 2, none⟩ = some (.slice a2 xs.length c2) ∧ w'.cell? ⟨w.heap.size, 3, none⟩ = some (.slice a3 bs.length c3) ∧ w'.cell? ⟨w.heap.size, 4, none⟩ = some (.slice a4 hs.length c4) ∧ w'.cell? ⟨cB, 0, none⟩ = some (.int .i64 (n : Nat)) ∧ w'.cell? ⟨cB, 1, none⟩ = some (.slice pv qs.length cv) ∧ w'.cell? ⟨cB, 2, none⟩ = some (.int .i64 s2) ∧ w'.cell? ⟨cB, 3, none⟩ = some (.int .i64 s3) ∧ w'.cell? ⟨cB, 4, none⟩ = some (.slice pi IL.length ci) ∧ w'.cell? ⟨cB, 5, none⟩ = some (.slice pn NL.length cn) ∧ w'.cell? ⟨cB, 6, none⟩ = some (.slice pb bs.length cb) ∧ w'.cell? ⟨cB, 7, none⟩ = some (.slice ph hs.length ch)))
   (HZ17 : Hid (Lk w wc ⟨a0, c0, a1, is.length, c1, a2, xs.length, c2, a3, bs.length, c3, a4, hs.length, c4⟩ ns is xs bs hs cB n pv cv qs s2 s3 ⟨pi, IL, ci⟩ ⟨pn, NL, cn⟩ ⟨pb, BL, cb⟩ ⟨ph, HL, ch⟩ ∧ Gg.BoolsAt wc pA ALL ∧ IntsAt wc (some ⟨gV, 0, none⟩) V ∧ Gg.BoolsAt wc pX NXB ∧ Gg.BoolsAt wc pG BGB)) :
   Code.wp Tryz.prog code (bodyPost Tryz.prog Tryz.f4 fun e w' => e = .returned (.bool true) ∧ Below w.heap.size w w') ⟨#[r0, r1, r2, .pointer (some ⟨w.heap.size, 0, none⟩), r4, r5, r6, .pointer (some ⟨cB, 0, none⟩), r8, r9, r10, r11, .slice pA ALL.length cA, .slice (some ⟨gV, 0, none⟩) ns.length ns.length, r14, r15, r16, r17, r18, r19, r20, r21, r22, r23, r24, r25, r26, r27, r28, r29, r30, r31, r32, r33, r34, r35, r36, r37, r38, r39, r40, r41, r42, r43, r44, r45, r46, r47, r48, r49, r50, r51, r52, r53, r54, r55, r56, r57, r58, r59, r60, r61, r62, r63, r64, r65, r66, r67, r68, r69, r70, r71, r72, r73, r74, r75, r76, r77, r78, r79, r80, r81, r82, r83, r84, r85, r86, r87, r88, r89, r90, r91, r92, r93, r94, r95, r96, r97, r98, r99, r100, r101, r102, r103, r104, r105, r106, r107, r108, r109, r110, r111, r112, r113, r114, r115, r116, r117, r118, r119, r120, r121, r122, r123, r124, r125, r126, r127, r128, r129, r130, r131, r132, r133, r134, r135, r136, r137, r138, r139, r140, r141, r142, r143, r144, r145, r146, r147, r148, r149, r150, r151, r152, r153, r154, r155, r156, r157, r158, r159, r160, r161, r162, r163, r164, r165, r166, r167, r168, r169, r170, r171, r172, r173, r174, r175, r176, r177, r178, r179, r180, r181, r182, r183, r184, r185, r186, r187, r188, r189, r190, r191, r192, r193, r194, r195, r196, r197, r198, r199, r200, r201, r202, r203, r204, r205, r206, r207, r208, r209, r210, r211, r212, r213, r214, r215, r216, r217, r218, r219, r220, r221, r222, r223, r224, r225, r226, r227, r228, r229, r230, r231, r232, r233, r234, r235, r236, r237, r238, r239, r240, r241, r242, r243, r244, r245, r246, r247, r248, r249, r250, r251, r252, r253, r254, r255, r256, r257, r258, r259, r260, r261, r262, r263, r264, r265, r266, r267, r268, r269, r270, r271, r272], []⟩ wc := by
 subst hcode
 conv => arg 2; whnf
 dsimp only
 have HZB : Hid (∀ u u', (Lk w u ⟨a0, c0, a1, is.length, c1, a2, xs.length, c2, a3, bs.length, c3, a4, hs.length, c4⟩ ns is xs bs hs cB n pv cv qs s2 s3 ⟨pi, IL, ci⟩ ⟨pn, NL, cn⟩ ⟨pb, BL, cb⟩ ⟨ph, HL, ch⟩ ∧ Gg.BoolsAt u pA ALL ∧ IntsAt u (some ⟨gV, 0, none⟩) V ∧ Gg.BoolsAt u pX NXB ∧ Gg.BoolsAt u pG BGB) → Below u.heap.size u u' → (Lk w u' ⟨a0, c0, a1, is.length, c1, a2, xs.length, c2, a3, bs.length, c3, a4, hs.length, c4⟩ ns is xs bs hs cB n pv cv qs s2 s3 ⟨pi, IL, ci⟩ ⟨pn, NL, cn⟩ ⟨pb, BL, cb⟩ ⟨ph, HL, ch⟩ ∧ Gg.BoolsAt u' pA ALL ∧ IntsAt u' (some ⟨gV, 0, none⟩) V ∧ Gg.BoolsAt u' pX NXB ∧ Gg.BoolsAt u' pG BGB)) := fun u u' h hb => ⟨h.1.later (hb), h.2.1.later (hb), h.2.2.1.later (hb), h.2.2.2.1.later (hb), h.2.2.2.2.later (hb)⟩
 have HZD : Hid (∀ u, (Lk w u ⟨a0, c0, a1, is.length, c1, a2, xs.length, c2, a3, bs.length, c3, a4, hs.length, c4⟩ ns is xs bs hs cB n pv cv qs s2 s3 ⟨pi, IL, ci⟩ ⟨pn, NL, cn⟩ ⟨pb, BL, cb⟩ ⟨ph, HL, ch⟩ ∧ Gg.BoolsAt u pA ALL ∧ IntsAt u (some ⟨gV, 0, none⟩) V ∧ Gg.BoolsAt u pX NXB ∧ Gg.BoolsAt u pG BGB) → (Lk w u.drew ⟨a0, c0, a1, is.length, c1, a2, xs.length, c2, a3, bs.length, c3, a4, hs.length, c4⟩ ns is xs bs hs cB n pv cv qs s2 s3 ⟨pi, IL, ci⟩ ⟨pn, NL, cn⟩ ⟨pb, BL, cb⟩ ⟨ph, HL, ch⟩ ∧ Gg.BoolsAt u.drew pA ALL ∧ IntsAt u.drew (some ⟨gV, 0, none⟩) V ∧ Gg.BoolsAt u.drew pX NXB ∧ Gg.BoolsAt u.drew pG BGB)) := fun u h => HZB.out u u.drew h (Below.refl _ u).drew
 have HLO := hide (fun (x : Int) (h0 : 0 ≤ x) (h1 : x < 2 * (1 + (n : Int) + qs.length)) (u : World) (hb : Gg.BoolsAt u pA ALL) => Gg.litOf_any ALL pA cA x h0 (by rw [HAL.out]; omega) (by rw [HAL.out]; omega) u hb)
 have HZB3 := HZ17
 clear HZ17
 obtain ⟨q0, q1, q2, q3, q4, k0, k1, k2, k3, k4, k5, k6, k7⟩ := HCA.out _ HZB3.out.1
 go_wp2_with fail
 clear q0 q1 q2 q3 q4 k0 k1 k2 k3 k4 k5 k6 k7
 go_loopw [22] (fun i wr => ∃ k : Nat, k ≤ bs.length ∧ i = .int .i64 k ∧ Hid (Lk w wr ⟨a0, c0, a1, is.length, c1, a2, xs.length, c2, a3, bs.length, c3, a4, hs.length, c4⟩ ns is xs bs hs cB n pv cv qs s2 s3 ⟨pi, IL, ci⟩ ⟨pn, NL, cn⟩ ⟨pb, BL, cb⟩ ⟨ph, HL, ch⟩ ∧ Gg.BoolsAt wr pA ALL ∧ IntsAt wr (some ⟨gV, 0, none⟩) V ∧ Gg.BoolsAt wr pX NXB ∧ Gg.BoolsAt wr pG BGB)) (fun i _ => bs.length - (intOf i).toNat)
 case atStart => exact ⟨0, Nat.zero_le _, rfl, HZB3⟩
 case round =>
 clear HZB3
 obtain ⟨k, hk, rfl, HZ⟩ := hrel
 obtain ⟨q0, q1, q2, q3, q4, k0, k1, k2, k3, k4, k5, k6, k7⟩ := HCA.out _ HZ.out.1
 by_cases hlt : k < bs.length
 · have h1 : k < BL.length := by have := HTF.out.bl; omega
   obtain ⟨v0, v1, v2, v3, v4⟩ := HTF.out.bx k h1 hlt
   have hkl : (k : Int) < (bs.length : Int) := by omega
   obtain ⟨tb, tq, hpt, ht⟩ := HZ.out.1.lb (show 0 < BL.length by omega)
   have x0 := ht k h1
   simp only at hpt x0
   subst hpt
   obtain ⟨mb, mo, hpm, hm⟩ := (HBs.out.later HZ.out.1.bel) (show 0 < bs.length by omega)
   have y0 := hm k hlt
   subst hpm
   obtain ⟨ub, uo, hpu, hu⟩ := HZ.out.2.2.1 (show 0 < V.length by omega)
   obtain ⟨xn, hxn⟩ : ∃ xn : Nat, bs[k] = (xn : Int) := ⟨bs[k].toNat, by omega⟩
   have hxV : xn < V.length := by omega
   have z0 := hu xn hxV
   cases hpu
   rw [hxn] at y0 v2
   rw [Int.toNat_natCast, Gg.getD_at hxV] at v2
   simp only [Nat.zero_add] at z0
   have hxi : (xn : Int) < (V.length : Int) := by omega
   have hxi2 : (xn : Int) < (ns.length : Int) := by rw [← hvl]; exact hxi
   have HLX := hide (HLO.out BL[k] v0 v1)
   rw [HALQ.out] at v2
   rw [v2] at HLX
   have HZd := hide (HZD.out _ HZ.out)
   clear v0 v1 v2 v3 v4 ht hm hu hxn
   generalize BL[k] = nl at *
   generalize V[xn] = vx at *
   go_wp2_with fail
   go_region_held3 (fun w' => w' = wr.drew) (first | rfl | go_keep) ((go_at_call 20; with_reducible refine (HLX.out _ HZd.out.2.1).mono ?_; rintro e w' ⟨rfl, rfl⟩))
   go_wp2_with fail
   go_roundw
   case rel => exact ⟨k + 1, by omega, by go_num, HZd⟩
   case measure => simp [intOf]; omega
 · have hkl : ¬ (k : Int) < (bs.length : Int) := by omega
   have HZB4 := HZ
   go_wp2_with fail
   clear HZ hlt hkl hk q0 q1 q2 q3 q4 k0 k1 k2 k3 k4 k5 k6 k7
   go_loopw [23] (fun i wr => ∃ k : Nat, k ≤ hs.length ∧ i = .int .i64 k ∧ Hid (Lk w wr ⟨a0, c0, a1, is.length, c1, a2, xs.length, c2, a3, bs.length, c3, a4, hs.length, c4⟩ ns is xs bs hs cB n pv cv qs s2 s3 ⟨pi, IL, ci⟩ ⟨pn, NL, cn⟩ ⟨pb, BL, cb⟩ ⟨ph, HL, ch⟩ ∧ Gg.BoolsAt wr pA ALL ∧ IntsAt wr (some ⟨gV, 0, none⟩) V ∧ Gg.BoolsAt wr pX NXB ∧ Gg.BoolsAt wr pG BGB)) (fun i _ => hs.length - (intOf i).toNat)
   case atStart => exact ⟨0, Nat.zero_le _, rfl, HZB4⟩
   case round =>
   clear HZB4
   obtain ⟨k, hk, rfl, HZ⟩ := hrel
   obtain ⟨q0, q1, q2, q3, q4, k0, k1, k2, k3, k4, k5, k6, k7⟩ := HCA.out _ HZ.out.1
   by_cases hlt : k < hs.length
   · have h1 : k < HL.length := by have := HTF.out.hl; omega
     obtain ⟨v0, v1, v2, v3, v4⟩ := HTF.out.hx k h1 hlt
     have hkl : (k : Int) < (hs.length : Int) := by omega
     obtain ⟨tb, tq, hpt, ht⟩ := HZ.out.1.lh (show 0 < HL.length by omega)
     have x0 := ht k h1
     simp only at hpt x0
     subst hpt
     obtain ⟨mb, mo, hpm, hm⟩ := (HHs.out.later HZ.out.1.bel) (show 0 < hs.length by omega)
     have y0 := hm k hlt
     subst hpm
     obtain ⟨ub, uo, hpu, hu⟩ := HZ.out.2.2.1 (show 0 < V.length by omega)
     obtain ⟨xn, hxn⟩ : ∃ xn : Nat, hs[k] = (xn : Int) := ⟨hs[k].toNat, by omega⟩
     have hxV : xn < V.length := by omega
     have z0 := hu xn hxV
     cases hpu
     rw [hxn] at y0 v2
     rw [Int.toNat_natCast, Gg.getD_at hxV] at v2
     simp only [Nat.zero_add] at z0
     have hxi : (xn : Int) < (V.length : Int) := by omega
     have hxi2 : (xn : Int) < (ns.length : Int) := by rw [← hvl]; exact hxi
     have HLX := hide (HLO.out HL[k] v0 v1)
     rw [HALQ.out] at v2
     rw [v2] at HLX
     have HZd := hide (HZD.out _ HZ.out)
     clear v0 v1 v2 v3 v4 ht hm hu hxn
     generalize HL[k] = nl at *
     generalize V[xn] = vx at *
     go_wp2_with fail
     go_region_held3 (fun w' => w' = wr.drew) (first | rfl | go_keep) ((go_at_call 20; with_reducible refine (HLX.out _ HZd.out.2.1).mono ?_; rintro e w' ⟨rfl, rfl⟩))
     go_wp2_with fail
     go_roundw
     case rel => exact ⟨k + 1, by omega, by go_num, HZd⟩
     case measure => simp [intOf]; omega
   · have hkl : ¬ (k : Int) < (hs.length : Int) := by omega
     go_wp2_with fail
     go_ret
     exact ⟨rfl, HZ.out.1.bel⟩
end Go.Proofs.YtabnimgpednhjabGreat
