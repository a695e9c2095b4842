/- The plain texts of steps: what must hold, and what is behind. -/
import Derived.Test.YtmambfdimeeijaaGreatDoorTmM
import Derived.Deep.CutRange
import Derived.Deep.CutBlock
import Derived.Deep.RegionHeld3
namespace Go.Proofs.YtmambfdimeeijaaGreatDoor
open Go.RowKit Go.Maps Go.WideMaps
set_option maxRecDepth 100000
def loadH : Op := .load 28 (.tmp 167)
theorem loadH_fold : Op.load 28 (.tmp 167) = loadH := rfl
theorem loadH_is : loadH = Op.load 28 (.tmp 167) := rfl
attribute [local go_sem] loadH_is
section
set_option maxHeartbeats 16000000 in
theorem st_holds {code : Code} (hcode : code = ((Tryz.f7.body).bind (findSeq 30)).getD .skip) {r0 r5 r6 r7 r13 r14 r15 r16 r17 r18 r19 r20 r21 r22 r23 r24 r25 r26 r27 r28 r29 r30 r31 r32 r33 r34 r35 r36 r37 r38 r39 r40 r41 r42 r43 r44 r45 r46 r47 r48 r49 r50 r51 r52 r53 r54 r55 r56 r57 r58 r59 r60 r61 r62 r63 r64 r65 r66 r67 r68 r69 r70 r71 r72 r73 r74 r75 r76 r77 r78 r79 r80 r81 r82 r83 r84 r85 r86 r87 r88 r89 r90 r91 r92 r93 r94 r95 r96 r97 r98 r99 r100 r101 r102 r103 r104 r105 r106 r107 r108 r109 r110 r111 r112 r113 r114 r115 r116 r117 r118 r119 r120 r121 r122 r123 r124 r125 r126 r127 r128 r129 r130 r131 r132 r133 r134 r135 r136 r137 r138 r139 r140 r141 r142 r143 r144 r145 r146 r147 r148 r149 r150 r151 r152 r153 r154 r155 r156 r157 r158 r159 r160 r161 r162 r163 r164 r165 r166 r167 r168 r169 r170 r171 r172 r173 r174 r175 r176 r177 r178 r179 r180 r181 r182 r183 r184 r185 r186 r187 r188 r189 r190 r191 r192 r193 r194 r195 r196 r197 r198 r199 r200 r201 r202 r203 r204 r205 r206 r207 r208 r209 r210 r211 r212 r213 r214 r215 r216 r217 r218 r219 r220 r221 r222 r223 r224 r225 r226 r227 r228 r229 r230 r231 r232 r233 r234 r235 r236 r237 r238 r239 r240 r241 r242 r243 r244 r245 r246 r247 r248 r249 r250 r251 r252 r253 r254 r255 r256 r257 r258 r259 r260 r261 r262 r263 r264 r265 r266 r267 r268 r269 r270 r271 r272 r273 r274 r275 r276 r277 r278 r279 r280 r281 r282 r283 r284 r285 r286 r287 r288 r289 r290 r291 r292 r293 r294 r295 r296 r297 r298 r299 r300 r301 r302 r303 r304 r305 r306 r307 r308 r309 r310 r311 r312 r313 r314 r315 r316 r317 : Value} (w w1 : World) (B G F M : Nat) (C : Ci) (last : Nat) (begun : Bool) (V : Int) (L : List (List Int)) (wc : World) (HX : Hid (Fx w w1 B G F M C last)) (HS : Hid (Sc w1 wc M V L)) (HL : Hid (L.length ≤ 600000000)) (HV : Hid (0 ≤ V ∧ V ≤ 200000)) :
   Code.wp Tryz.prog code (bodyPost Tryz.prog Tryz.f7 (StO w (V + (cntP last (last + 1) : Int) * C.s) (L ++ stepsL (holdsT C) (last + 1) ++ badC C last ++ stepsL (quietT C) last ++ diffL C last V))) ⟨#[r0, .int .i64 last, .bool begun, .bool true, .pointer (some ⟨B, 0, none⟩), r5, r6, r7, .pointer (some ⟨G, 0, none⟩), .pointer (some ⟨F, 0, none⟩), .pointer (some ⟨M, 0, none⟩), .func (.func 14) #[] #[.pointer (some ⟨M, 0, none⟩)], .func (.func 15) #[] #[.pointer (some ⟨F, 0, none⟩), .pointer (some ⟨B, 0, none⟩)], r13, r14, r15, r16, r17, r18, r19, r20, r21, r22, r23, r24, r25, r26, r27, r28, r29, r30, r31, r32, r33, r34, r35, r36, r37, r38, r39, r40, r41, r42, r43, r44, r45, r46, r47, r48, r49, r50, r51, r52, r53, r54, r55, r56, r57, r58, r59, r60, r61, r62, r63, r64, r65, r66, r67, r68, r69, r70, r71, r72, r73, r74, r75, r76, r77, r78, r79, r80, r81, r82, r83, r84, r85, r86, r87, r88, r89, r90, r91, r92, r93, r94, r95, r96, r97, r98, r99, r100, r101, r102, r103, r104, r105, r106, r107, r108, r109, r110, r111, r112, r113, r114, r115, r116, r117, r118, r119, r120, r121, r122, r123, r124, r125, r126, r127, r128, r129, r130, r131, r132, r133, r134, r135, r136, r137, r138, r139, r140, r141, r142, r143, r144, r145, r146, r147, r148, r149, r150, r151, r152, r153, r154, r155, r156, r157, r158, r159, r160, r161, r162, r163, r164, r165, r166, r167, r168, r169, r170, r171, r172, r173, r174, r175, r176, r177, r178, r179, r180, r181, r182, r183, r184, r185, r186, r187, r188, r189, r190, r191, r192, r193, r194, r195, r196, r197, r198, r199, r200, r201, r202, r203, r204, r205, r206, r207, r208, r209, r210, r211, r212, r213, r214, r215, r216, r217, r218, r219, r220, r221, r222, r223, r224, r225, r226, r227, r228, r229, r230, r231, r232, r233, r234, r235, r236, r237, r238, r239, r240, r241, r242, r243, r244, r245, r246, r247, r248, r249, r250, r251, r252, r253, r254, r255, r256, r257, r258, r259, r260, r261, r262, r263, r264, r265, r266, r267, r268, r269, r270, r271, r272, r273, r274, r275, r276, r277, r278, r279, r280, r281, r282, r283, r284, r285, r286, r287, r288, r289, r290, r291, r292, r293, r294, r295, r296, r297, r298, r299, r300, r301, r302, r303, r304, r305, r306, r307, r308, r309, r310, r311, r312, r313, r314, r315, r316, r317], []⟩ wc := by
 subst hcode
 conv => arg 2; whnf
 dsimp only
 have hok := HX.out.ok
 have hla := hok.la
 have hhl := hok.hl
 have hff := hok.f0
 have HTF : Hid (∀ t : Nat, t ≤ last → 0 ≤ (t : Int) * C.f ∧ (t : Int) * C.f + C.f ≤ 200000) := fun t ht => hok.tf ht
 have HNH : Hid (∀ k (h : k < C.h.ns.length), 0 ≤ C.h.ns[k] ∧ C.h.ns[k] < 2 * (1 + C.f)) := fun k h => hok.nh _ (List.getElem_mem h)
 have HCL : Hid (∀ t k, t ≤ last + 1 → k ≤ C.h.ns.length → (L ++ stepsL (holdsT C) t ++ stepsL (holdC C t) k).length ≤ 700000000) := fun t k ht hk => by
   have := holds_le C t k (by omega) hk hhl
   have := HL.out
   simp only [List.length_append]
   omega
 have HSU1 : Hid (∀ t, stepsL (holdsT C) (t + 1) = stepsL (holdsT C) t ++ stepsL (holdC C t) C.h.ns.length) := fun t => stepsL_succ _ _
 have HSU2 : Hid (∀ t k (h : k < C.h.ns.length), t ≤ last → stepsL (holdC C t) (k + 1) = stepsL (holdC C t) k ++ mustP C.h.ns[k] (t * C.f)) := fun t k h ht => by
   rw [stepsL_succ, mustP_T C.f t _ (HNH.out k h).1 (HTF.out t ht).1]
   unfold holdC
   rw [show C.h.ns.getD k 0 = C.h.ns[k] by simp [List.getD, List.getElem?_eq_getElem h]]
 clear hok
 have HL9 : Hid ((L ++ stepsL (holdsT C) (last + 1)).length ≤ 700000000) := by
   have hlb := HCL.out (last + 1) 0 (by omega) (by omega)
   rw [show stepsL (holdC C (last + 1)) 0 = [] from rfl, List.append_nil] at hlb
   exact hlb
 go_upto_block 9 with fail
 go_cut [] from 18 to 179 (fun wx => Hid (Sc w1 wx M V (L ++ stepsL (holdsT C) (last + 1))))
 case rest =>
   go_step
   exact st_bad (by kernel_rfl) w w1 B G F M C last begun V _ wc HX hcut HL9 HV
 case first =>
 clear HL9
 go_wp2_with fail
 go_loopw [18] (fun i wr => ∃ t : Nat, t ≤ last + 1 ∧ i = .int .i64 t ∧ Hid (Sc w1 wr M V (L ++ stepsL (holdsT C) t))) (fun i _ => last + 1 - (intOf i).toNat)
 case atStart => exact ⟨0, Nat.zero_le _, rfl, by simpa [stepsL, Hid] using HS.out⟩
 case round =>
   obtain ⟨t, ht, rfl, HR⟩ := hrel
   by_cases hlt : t ≤ last
   · have hti : (t : Int) ≤ (last : Int) := by omega
     have htf := HTF.out t hlt
     go_wp2
     go_loopw [19] (fun i wr => ∃ k : Nat, k ≤ C.h.ns.length ∧ i = .int .i64 k ∧ Hid (Sc w1 wr M V (L ++ stepsL (holdsT C) t ++ stepsL (holdC C t) k))) (fun i _ => C.h.ns.length - (intOf i).toNat)
     case atStart => exact ⟨0, Nat.zero_le _, rfl, by simpa [stepsL, Hid] using HR.out⟩
     case round =>
       obtain ⟨k, hk, rfl, HR2⟩ := hrel
       have fy := HX.out.at HR2.out.bel
       have y7 := fy.x7
       by_cases hlk : k < C.h.ns.length
       · have hki : (k : Int) < (C.h.ns.length : Int) := by omega
         obtain ⟨v, rs, hn, hc, hbm⟩ := HR2.out
         obtain ⟨bb, bo, hbe⟩ := row_is fy.at'.h (by omega)
         have hnk := HNH.out k hlk
         have hbd : Below wr.heap.size wr wr.drew := (Below.refl _ wr).drew
         have hMd : M < wr.drew.heap.size := Nat.lt_of_lt_of_le HR2.out.lt hbd.size
         have hbmd := hbm.trans (hbd.mono (Nat.le_of_lt HR2.out.lt))
         have HCD := hide (hc.below hbd)
         have md := HCD.out.c1
         have hl5 : rs.length + (mustP C.h.ns[k] (t * C.f)).length ≤ 2000000000 := by
           have h1 := HCL.out t k (by omega) hk
           rw [← hn, numsOf_len] at h1
           have := mustP_le C.h.ns[k] (t * C.f)
           omega
         have HSU : Hid (∀ u, Below M w1 u → u.cell? ⟨B, 7, none⟩ = some (.slice (some ⟨bb, bo, none⟩) C.h.ns.length C.h.cap) ∧ u.cell? ⟨bb, bo + k, none⟩ = some (.int .i64 C.h.ns[k]) ∧ u.cell? ⟨F, 0, none⟩ = some (.int .i64 C.f)) := fun u hu => by
           have f9 := HX.out.at hu
           have := f9.x7
           rw [hbe] at this
           exact ⟨this, row_at f9.at'.h hlk hbe, f9.xf⟩
         have HNX : Hid (numsOf rs ++ mustP C.h.ns[k] (t * C.f) = L ++ stepsL (holdsT C) t ++ stepsL (holdC C t) (k + 1)) := by
           unfold Hid
           rw [hn, HSU2.out t k hlk hlt]
           simp only [List.append_assoc]
         have HMU := hide (fun u => mustP_any C.h.ns[k] (t * C.f) hnk.1 (by omega) htf.1 (by omega) u)
         have wm := wrap_id (x := (t : Int) * C.f) (by omega) (by omega)
         rw [hbe] at y7
         clear fy hn hc hnk hbe
         generalize C.h.ns[k] = x at *
         go_wp2
         simp only [loadH_fold]
         go_region_held3 (fun w' => w'.cell? ⟨B, 7, none⟩ = some (.slice (some ⟨bb, bo, none⟩) C.h.ns.length C.h.cap) ∧ w'.cell? ⟨bb, bo + k, none⟩ = some (.int .i64 x) ∧ w'.cell? ⟨F, 0, none⟩ = some (.int .i64 C.f))
           (first | exact HSU.out _ hbs9 | exact HSU.out _ hbm9 | exact HSU.out _ hbm5 | exact HSU.out _ hbmd | go_keep)
           ((first | (go_at_call 18; refine (HMU.out _).mono ?_; intro e w5 hnew
                      obtain ⟨p5, n5, cap5, rfl, hc5, hb5, hap⟩ := sc_new HCD.out hbmd hl5 hnew
                      obtain ⟨p9, n9, c9, w9, hrun9, k1, kf, hsc9, hbm9⟩ := hap
                      have hbm5 := hbmd.trans (hb5.mono (Nat.le_of_lt hMd))
                      have m5 := hc5.c1
                      have hbs9 := hsc9.bel) | (refine step_appR rfl _ _ _ _ rfl _ _ rfl rfl _ _ hrun9 ?_)))
         all_goals
           rename_i hHeld
           have HS9 : Hid (Sc w1 (w9.setCell ⟨M, 1, none⟩ (.slice p9 n9 c9)) M V (L ++ stepsL (holdsT C) t ++ stepsL (holdC C t) (k + 1))) := by rw [← HNX.out]; exact hsc9
           clear hHeld hsc9 hbs9 hbm9 k1 kf hrun9 hb5 hc5 hbm5 m5 hnew md HCD hMd hbd hbmd hl5 HSU HNX HMU hbm
           generalize w9.setCell ⟨M, 1, none⟩ (.slice p9 n9 c9) = wz at *
           go_wp2
           go_roundw
           case rel => exact ⟨k + 1, by omega, by go_num, HS9⟩
           case measure => simp [intOf]; omega
       · obtain rfl : k = C.h.ns.length := by omega
         have HS9 : Hid (Sc w1 wr M V (L ++ stepsL (holdsT C) (t + 1))) := by unfold Hid; rw [HSU1.out, ← List.append_assoc]; exact HR2.out
         clear fy HR2
         go_wp2
         go_roundw
         case rel => exact ⟨t + 1, by omega, by go_num, HS9⟩
         case measure => simp [intOf]; omega
   · obtain rfl : t = last + 1 := by omega
     have hnt : ¬ ((last + 1 : Nat) : Int) ≤ (last : Int) := by omega
     go_wp2
     go_meet
     exact HR
end
end Go.Proofs.YtmambfdimeeijaaGreatDoor

namespace Go.Proofs.YtmambfdimeeijaaGreatDoor
open Go.RowKit Go.Maps Go.WideMaps
set_option maxRecDepth 100000
section
set_option maxHeartbeats 16000000 in
theorem st_begins {code : Code} (hcode : code = ((Tryz.f7.body).bind (findSeq 23)).getD .skip) {r0 r5 r6 r7 r13 r14 r15 r16 r17 r18 r19 r20 r21 r22 r23 r24 r25 r26 r27 r28 r29 r30 r31 r32 r33 r34 r35 r36 r37 r38 r39 r40 r41 r42 r43 r44 r45 r46 r47 r48 r49 r50 r51 r52 r53 r54 r55 r56 r57 r58 r59 r60 r61 r62 r63 r64 r65 r66 r67 r68 r69 r70 r71 r72 r73 r74 r75 r76 r77 r78 r79 r80 r81 r82 r83 r84 r85 r86 r87 r88 r89 r90 r91 r92 r93 r94 r95 r96 r97 r98 r99 r100 r101 r102 r103 r104 r105 r106 r107 r108 r109 r110 r111 r112 r113 r114 r115 r116 r117 r118 r119 r120 r121 r122 r123 r124 r125 r126 r127 r128 r129 r130 r131 r132 r133 r134 r135 r136 r137 r138 r139 r140 r141 r142 r143 r144 r145 r146 r147 r148 r149 r150 r151 r152 r153 r154 r155 r156 r157 r158 r159 r160 r161 r162 r163 r164 r165 r166 r167 r168 r169 r170 r171 r172 r173 r174 r175 r176 r177 r178 r179 r180 r181 r182 r183 r184 r185 r186 r187 r188 r189 r190 r191 r192 r193 r194 r195 r196 r197 r198 r199 r200 r201 r202 r203 r204 r205 r206 r207 r208 r209 r210 r211 r212 r213 r214 r215 r216 r217 r218 r219 r220 r221 r222 r223 r224 r225 r226 r227 r228 r229 r230 r231 r232 r233 r234 r235 r236 r237 r238 r239 r240 r241 r242 r243 r244 r245 r246 r247 r248 r249 r250 r251 r252 r253 r254 r255 r256 r257 r258 r259 r260 r261 r262 r263 r264 r265 r266 r267 r268 r269 r270 r271 r272 r273 r274 r275 r276 r277 r278 r279 r280 r281 r282 r283 r284 r285 r286 r287 r288 r289 r290 r291 r292 r293 r294 r295 r296 r297 r298 r299 r300 r301 r302 r303 r304 r305 r306 r307 r308 r309 r310 r311 r312 r313 r314 r315 r316 r317 : Value} (w w1 : World) (B G F M : Nat) (C : Ci) (last : Nat) (begun : Bool) (V : Int) (L : List (List Int)) (wc : World) (HX : Hid (Fx w w1 B G F M C last)) (HS : Hid (Sc w1 wc M V L)) (HL : Hid (L.length ≤ 500000000)) (HBG : Hid (begun = false)) (HV : Hid (0 ≤ V ∧ V ≤ 200000)) :
   Code.wp Tryz.prog code (bodyPost Tryz.prog Tryz.f7 (StO w (V + (cntP last (last + 1) : Int) * C.s) (L ++ stepsL (holdsT C) (last + 1) ++ badC C last ++ stepsL (quietT C) last ++ diffL C last V))) ⟨#[r0, .int .i64 last, .bool begun, .bool true, .pointer (some ⟨B, 0, none⟩), r5, r6, r7, .pointer (some ⟨G, 0, none⟩), .pointer (some ⟨F, 0, none⟩), .pointer (some ⟨M, 0, none⟩), .func (.func 14) #[] #[.pointer (some ⟨M, 0, none⟩)], .func (.func 15) #[] #[.pointer (some ⟨F, 0, none⟩), .pointer (some ⟨B, 0, none⟩)], r13, r14, r15, r16, r17, r18, r19, r20, r21, r22, r23, r24, r25, r26, r27, r28, r29, r30, r31, r32, r33, r34, r35, r36, r37, r38, r39, r40, r41, r42, r43, r44, r45, r46, r47, r48, r49, r50, r51, r52, r53, r54, r55, r56, r57, r58, r59, r60, r61, r62, r63, r64, r65, r66, r67, r68, r69, r70, r71, r72, r73, r74, r75, r76, r77, r78, r79, r80, r81, r82, r83, r84, r85, r86, r87, r88, r89, r90, r91, r92, r93, r94, r95, r96, r97, r98, r99, r100, r101, r102, r103, r104, r105, r106, r107, r108, r109, r110, r111, r112, r113, r114, r115, r116, r117, r118, r119, r120, r121, r122, r123, r124, r125, r126, r127, r128, r129, r130, r131, r132, r133, r134, r135, r136, r137, r138, r139, r140, r141, r142, r143, r144, r145, r146, r147, r148, r149, r150, r151, r152, r153, r154, r155, r156, r157, r158, r159, r160, r161, r162, r163, r164, r165, r166, r167, r168, r169, r170, r171, r172, r173, r174, r175, r176, r177, r178, r179, r180, r181, r182, r183, r184, r185, r186, r187, r188, r189, r190, r191, r192, r193, r194, r195, r196, r197, r198, r199, r200, r201, r202, r203, r204, r205, r206, r207, r208, r209, r210, r211, r212, r213, r214, r215, r216, r217, r218, r219, r220, r221, r222, r223, r224, r225, r226, r227, r228, r229, r230, r231, r232, r233, r234, r235, r236, r237, r238, r239, r240, r241, r242, r243, r244, r245, r246, r247, r248, r249, r250, r251, r252, r253, r254, r255, r256, r257, r258, r259, r260, r261, r262, r263, r264, r265, r266, r267, r268, r269, r270, r271, r272, r273, r274, r275, r276, r277, r278, r279, r280, r281, r282, r283, r284, r285, r286, r287, r288, r289, r290, r291, r292, r293, r294, r295, r296, r297, r298, r299, r300, r301, r302, r303, r304, r305, r306, r307, r308, r309, r310, r311, r312, r313, r314, r315, r316, r317], []⟩ wc := by
 subst hcode
 conv => arg 2; whnf
 dsimp only
 have hok := HX.out.ok
 have hil := hok.il
 have ha0 := hok.a0
 have hs0 := hok.s0
 have ha1 : C.a ≤ 1000 := by have := hok.sm; have := hok.i1; omega
 have hs1 : C.s ≤ 1000 := by have := hok.sm; have := hok.i1; omega
 obtain rfl : begun = false := HBG.out
 clear hok
 have HL9 : Hid (L.length ≤ 600000000) := Nat.le_trans HL.out (by decide)
 go_upto_block 7 with fail
 go_cut [] from 17 to 154 (fun wx => Hid (Sc w1 wx M V L))
 case rest =>
   go_step
   exact st_holds (by kernel_rfl) w w1 B G F M C last false V _ wc HX hcut HL9 HV
 case first =>
 clear HL9
 go_wp2_with fail
 go_loopw [17] (fun i wr => i = .int .i64 0 ∧ Hid (Sc w1 wr M V L)) (fun i _ => 0)
 case atStart => exact ⟨rfl, HS⟩
 case round =>
   obtain ⟨rfl, HR⟩ := hrel
   have fy := HX.out.at HR.out.bel
   have y3 := fy.x3
   clear fy
   go_wp2
   all_goals
     go_meet
     exact HR
end
end Go.Proofs.YtmambfdimeeijaaGreatDoor

namespace Go.Proofs.YtmambfdimeeijaaGreatDoor
open Go.RowKit Go.Maps Go.WideMaps
set_option maxRecDepth 100000
def At1 (t : Nat) (s : Int) : Prop := s = ((t + 1 : Nat) : Int)
theorem bitI_any {wr : World} {B F : Nat} {C : Ci} (h : Fy wr B F C) (s : Int) (i : Nat) (ht0 : 0 ≤ s * C.f) (ht : s * C.f ≤ 200000) (ha : 0 ≤ C.a) (ha2 : C.a ≤ 1000) (hi : i ≤ 1000) :
   Calls Tryz.prog 15 #[.int .i64 s, .int .i64 i, .pointer (some ⟨F, 0, none⟩), .pointer (some ⟨B, 0, none⟩)] wr fun e w' => e = .returned (.int .i64 (s * C.f + 1 + C.a + i)) ∧ w' = wr := by
 have w1 := wrap_id (x := s * C.f) (by omega) (by omega)
 have w2 := wrap_id (x := s * C.f + 1) (by omega) (by omega)
 have w3 := wrap_id (x := s * C.f + 1 + C.a) (by omega) (by omega)
 have w4 := wrap_id (x := s * C.f + 1 + C.a + (i : Int)) (by omega) (by omega)
 have c0 := h.xf
 have c2 := h.x2
 clear h
 go_enter Tryz.func15, Tryz.ntmps15
 go_wp2
 go_ret
 exact ⟨rfl, rfl⟩
section
set_option maxHeartbeats 16000000 in
theorem st_bonds {code : Code} (hcode : code = ((Tryz.f7.body).bind (findSeq 9)).getD .skip) {r0 r5 r6 r7 r13 r14 r15 r16 r17 r18 r19 r20 r21 r22 r23 r24 r25 r26 r27 r28 r29 r30 r31 r32 r33 r34 r35 r36 r37 r38 r39 r40 r41 r42 r43 r44 r45 r46 r47 r48 r49 r50 r51 r52 r53 r54 r55 r56 r57 r58 r59 r60 r61 r62 r63 r64 r65 r66 r67 r68 r69 r70 r71 r72 r73 r74 r75 r76 r77 r78 r79 r80 r81 r82 r83 r84 r85 r86 r87 r88 r89 r90 r91 r92 r93 r94 r95 r96 r97 r98 r99 r100 r101 r102 r103 r104 r105 r106 r107 r108 r109 r110 r111 r112 r113 r114 r115 r116 r117 r118 r119 r120 r121 r122 r123 r124 r125 r126 r127 r128 r129 r130 r131 r132 r133 r134 r135 r136 r137 r138 r139 r140 r141 r142 r143 r144 r145 r146 r147 r148 r149 r150 r151 r152 r153 r154 r155 r156 r157 r158 r159 r160 r161 r162 r163 r164 r165 r166 r167 r168 r169 r170 r171 r172 r173 r174 r175 r176 r177 r178 r179 r180 r181 r182 r183 r184 r185 r186 r187 r188 r189 r190 r191 r192 r193 r194 r195 r196 r197 r198 r199 r200 r201 r202 r203 r204 r205 r206 r207 r208 r209 r210 r211 r212 r213 r214 r215 r216 r217 r218 r219 r220 r221 r222 r223 r224 r225 r226 r227 r228 r229 r230 r231 r232 r233 r234 r235 r236 r237 r238 r239 r240 r241 r242 r243 r244 r245 r246 r247 r248 r249 r250 r251 r252 r253 r254 r255 r256 r257 r258 r259 r260 r261 r262 r263 r264 r265 r266 r267 r268 r269 r270 r271 r272 r273 r274 r275 r276 r277 r278 r279 r280 r281 r282 r283 r284 r285 r286 r287 r288 r289 r290 r291 r292 r293 r294 r295 r296 r297 r298 r299 r300 r301 r302 r303 r304 r305 r306 r307 r308 r309 r310 r311 r312 r313 r314 r315 r316 r317 : Value} (w w1 : World) (B G F M : Nat) (C : Ci) (last : Nat) (begun : Bool) (V : Int) (L : List (List Int)) (wc : World) (HX : Hid (Fx w w1 B G F M C last)) (HS : Hid (Sc w1 wc M V L)) (HL : Hid (L.length ≤ 400000000)) (HBG : Hid (begun = false)) (HV : Hid (0 ≤ V ∧ V ≤ 200000)) :
   Code.wp Tryz.prog code (bodyPost Tryz.prog Tryz.f7 (StO w (V + (cntP last (last + 1) : Int) * C.s) (L ++ stepsL (bondsT C) last ++ stepsL (holdsT C) (last + 1) ++ badC C last ++ stepsL (quietT C) last ++ diffL C last V))) ⟨#[r0, .int .i64 last, .bool begun, .bool true, .pointer (some ⟨B, 0, none⟩), r5, r6, r7, .pointer (some ⟨G, 0, none⟩), .pointer (some ⟨F, 0, none⟩), .pointer (some ⟨M, 0, none⟩), .func (.func 14) #[] #[.pointer (some ⟨M, 0, none⟩)], .func (.func 15) #[] #[.pointer (some ⟨F, 0, none⟩), .pointer (some ⟨B, 0, none⟩)], r13, r14, r15, r16, r17, r18, r19, r20, r21, r22, r23, r24, r25, r26, r27, r28, r29, r30, r31, r32, r33, r34, r35, r36, r37, r38, r39, r40, r41, r42, r43, r44, r45, r46, r47, r48, r49, r50, r51, r52, r53, r54, r55, r56, r57, r58, r59, r60, r61, r62, r63, r64, r65, r66, r67, r68, r69, r70, r71, r72, r73, r74, r75, r76, r77, r78, r79, r80, r81, r82, r83, r84, r85, r86, r87, r88, r89, r90, r91, r92, r93, r94, r95, r96, r97, r98, r99, r100, r101, r102, r103, r104, r105, r106, r107, r108, r109, r110, r111, r112, r113, r114, r115, r116, r117, r118, r119, r120, r121, r122, r123, r124, r125, r126, r127, r128, r129, r130, r131, r132, r133, r134, r135, r136, r137, r138, r139, r140, r141, r142, r143, r144, r145, r146, r147, r148, r149, r150, r151, r152, r153, r154, r155, r156, r157, r158, r159, r160, r161, r162, r163, r164, r165, r166, r167, r168, r169, r170, r171, r172, r173, r174, r175, r176, r177, r178, r179, r180, r181, r182, r183, r184, r185, r186, r187, r188, r189, r190, r191, r192, r193, r194, r195, r196, r197, r198, r199, r200, r201, r202, r203, r204, r205, r206, r207, r208, r209, r210, r211, r212, r213, r214, r215, r216, r217, r218, r219, r220, r221, r222, r223, r224, r225, r226, r227, r228, r229, r230, r231, r232, r233, r234, r235, r236, r237, r238, r239, r240, r241, r242, r243, r244, r245, r246, r247, r248, r249, r250, r251, r252, r253, r254, r255, r256, r257, r258, r259, r260, r261, r262, r263, r264, r265, r266, r267, r268, r269, r270, r271, r272, r273, r274, r275, r276, r277, r278, r279, r280, r281, r282, r283, r284, r285, r286, r287, r288, r289, r290, r291, r292, r293, r294, r295, r296, r297, r298, r299, r300, r301, r302, r303, r304, r305, r306, r307, r308, r309, r310, r311, r312, r313, r314, r315, r316, r317], []⟩ wc := by
 subst hcode
 conv => arg 2; whnf
 dsimp only
 have hok := HX.out.ok
 have hnl := hok.nl
 have ha0 := hok.a0
 have hs0 := hok.s0
 have ha1 : C.a ≤ 1000 := by have := hok.sm; have := hok.i1; omega
 have hs1 : C.s ≤ 1000 := by have := hok.sm; have := hok.i1; omega
 have hla := hok.la
 have hff := hok.f0
 have HTF : Hid (∀ t : Nat, t ≤ last → 0 ≤ (t : Int) * C.f ∧ (t : Int) * C.f + C.f ≤ 200000) := fun t ht => hok.tf ht
 have HNN : Hid (∀ k (h : k < C.n.ns.length), 0 ≤ C.n.ns[k] ∧ C.n.ns[k] < 2 * (1 + C.f)) := fun k h => hok.nn _ (List.getElem_mem h)
 have HCL : Hid (∀ t k, t ≤ last + 1 → k ≤ C.n.ns.length → (L ++ stepsL (bondsT C) t ++ stepsL (bondC C t) k).length ≤ 500000000) := fun t k ht hk => by
   have := bonds_le C t k (by omega) hk (by omega)
   have := HL.out
   simp only [List.length_append]
   omega
 have HSU1 : Hid (∀ t, stepsL (bondsT C) (t + 1) = stepsL (bondsT C) t ++ stepsL (bondC C t) C.n.ns.length) := fun t => stepsL_succ _ _
 have HSU2 : Hid (∀ (t k : Nat) (s : Int) (h : k < C.n.ns.length), s = ((t + 1 : Nat) : Int) → t < last → stepsL (bondC C t) (k + 1) = stepsL (bondC C t) k ++ samP (s * C.f + 1 + C.a + k) (numP C.n.ns[k] ((s - 1) * C.f)) C.n.ns[k]) := fun t k s h hs ht => by
   have e : s - 1 = (t : Int) := by omega
   rw [stepsL_succ, e, hs, ← same_P C.f C.a (t + 1) t k C.n.ns[k] (HNN.out k h).1 (HTF.out (t + 1) (by omega)).1 (HTF.out t (by omega)).1 ha0]
   unfold bondC
   rw [show C.n.ns.getD k 0 = C.n.ns[k] by simp [List.getD, List.getElem?_eq_getElem h]]
 clear hok
 have HL9 : Hid ((L ++ stepsL (bondsT C) last).length ≤ 500000000) := by
   have hlb := HCL.out last 0 (by omega) (by omega)
   rw [show stepsL (bondC C last) 0 = [] from rfl, List.append_nil] at hlb
   exact hlb
 go_upto_block 2 with fail
 go_cut [] from 14 to 120 (fun wx => Hid (Sc w1 wx M V (L ++ stepsL (bondsT C) last)))
 case rest =>
   go_step
   exact st_begins (by kernel_rfl) w w1 B G F M C last begun V _ wc HX hcut HL9 HBG HV
 case first =>
 clear HL9 HBG
 go_wp2_with fail
 go_loopw [14] (fun i wr => ∃ t : Nat, ∃ s : Int, t ≤ last ∧ Hid (At1 t s) ∧ i = .int .i64 s ∧ Hid (Sc w1 wr M V (L ++ stepsL (bondsT C) t))) (fun i _ => last + 1 - (intOf i).toNat)
 case atStart => exact ⟨0, 1, Nat.zero_le _, rfl, rfl, by simpa [stepsL, Hid] using HS.out⟩
 case round =>
   obtain ⟨t, s, ht, HSA, rfl, HR⟩ := hrel
   have HSS : Hid (s = ((t + 1 : Nat) : Int)) := HSA.out
   clear HSA
   have hs2 : 1 ≤ s ∧ s ≤ 41 := by have := HSS.out; omega
   by_cases hlt : t < last
   · have hti : s ≤ (last : Int) := by have := HSS.out; omega
     have hsf : 0 ≤ s * C.f ∧ s * C.f + C.f ≤ 200000 := by rw [HSS.out]; exact HTF.out (t + 1) (by omega)
     have htf : 0 ≤ (s - 1) * C.f ∧ (s - 1) * C.f + C.f ≤ 200000 := by rw [show s - 1 = (t : Int) by have := HSS.out; omega]; exact HTF.out t (by omega)
     go_wp2
     go_loopw [15] (fun i wr => ∃ k : Nat, k ≤ C.n.ns.length ∧ i = .int .i64 k ∧ Hid (Sc w1 wr M V (L ++ stepsL (bondsT C) t ++ stepsL (bondC C t) k))) (fun i _ => C.n.ns.length - (intOf i).toNat)
     case atStart => exact ⟨0, Nat.zero_le _, rfl, by simpa [stepsL, Hid] using HR.out⟩
     case round =>
       obtain ⟨k, hk, rfl, HR2⟩ := hrel
       have fy := HX.out.at HR2.out.bel
       have y3 := fy.x3
       by_cases hlk : k < C.n.ns.length
       · have hki : (k : Int) < C.s := by omega
         have hkj : (k : Int) < (C.n.ns.length : Int) := by omega
         have y5 := fy.x5
         have yf := fy.xf
         obtain ⟨bb, bo, hbe⟩ := row_is fy.at'.n (by omega)
         have ck := row_at fy.at'.n hlk hbe
         rw [hbe] at y5
         have hnk := HNN.out k hlk
         have hlb := HCL.out t k (by omega) hk
         have hlb1 : (L ++ stepsL (bondsT C) t ++ stepsL (bondC C t) k).length ≤ 1000000000 := by omega
         have HSK := hide (HSU2.out t k s hlk HSS.out hlt)
         have hyb := numP_bd C.n.ns[k] ((s - 1) * C.f) hnk.1 (by omega) htf.1 (by omega)
         have HNU := hide (fun u : World => numP_any C.n.ns[k] ((s - 1) * C.f) hnk.1 (by omega) htf.1 (by omega) u)
         clear hbe
         generalize C.n.ns[k] = x at *
         obtain ⟨bv, HBV⟩ : ∃ bv, Hid (s * C.f + 1 + C.a + (k : Int) = bv) := ⟨_, rfl⟩
         rw [HBV.out] at HSK
         have hbv : 0 ≤ bv ∧ bv ≤ 300000 := by have := HBV.out; omega
         have wb := wrap_id (x := -bv) (by omega) (by omega)
         by_cases hx0 : x = 0
         · have HSK2 : Hid (stepsL (bondC C t) (k + 1) = stepsL (bondC C t) k ++ [[-bv]]) := by unfold Hid; rw [HSK.out]; unfold samP; rw [if_pos hx0]
           subst hx0
           clear HSK HNU hyb hnk
           have HB1 : Hid (Calls Tryz.prog 15 #[.int .i64 s, .int .i64 k, .pointer (some ⟨F, 0, none⟩), .pointer (some ⟨B, 0, none⟩)] wr fun e w' => e = .returned (.int .i64 bv) ∧ w' = wr) := by rw [← HBV.out]; exact bitI_any fy s k hsf.1 (by omega) ha0 ha1 (by omega)
           clear fy
           go_wp2_with fail
           refine HB1.out.mono ?_
           rintro e v1 ⟨rfl, hv1⟩
           obtain rfl : wr = v1 := hv1.symm
           clear hv1 HB1
           go_wp2_with fail
           refine (addS_one HR2.out hlb1 (-bv)).mono ?_
           rintro e w3 ⟨rfl, hs9⟩
           have HS9 := hide hs9
           clear hs9 HR2
           rw [List.append_assoc, ← HSK2.out] at HS9
           clear HSK2 y3 y5 yf ck hlb hlb1 wb
           go_wp2
           go_roundw
           case rel => exact ⟨k + 1, by omega, by go_num, HS9⟩
           case measure => simp [intOf]; omega
         · by_cases hx1 : x = 1
           · have HSK2 : Hid (stepsL (bondC C t) (k + 1) = stepsL (bondC C t) k ++ [[bv]]) := by unfold Hid; rw [HSK.out]; unfold samP; rw [if_neg hx0, if_pos hx1]
             subst hx1
             clear HSK HNU hyb hnk hx0
             have HB1 : Hid (Calls Tryz.prog 15 #[.int .i64 s, .int .i64 k, .pointer (some ⟨F, 0, none⟩), .pointer (some ⟨B, 0, none⟩)] wr fun e w' => e = .returned (.int .i64 bv) ∧ w' = wr) := by rw [← HBV.out]; exact bitI_any fy s k hsf.1 (by omega) ha0 ha1 (by omega)
             clear fy
             go_wp2_with fail
             refine HB1.out.mono ?_
             rintro e v1 ⟨rfl, hv1⟩
             obtain rfl : wr = v1 := hv1.symm
             clear hv1 HB1
             go_wp2_with fail
             refine (addS_one HR2.out hlb1 bv).mono ?_
             rintro e w3 ⟨rfl, hs9⟩
             have HS9 := hide hs9
             clear hs9 HR2
             rw [List.append_assoc, ← HSK2.out] at HS9
             clear HSK2 y3 y5 yf ck hlb hlb1 wb
             go_wp2
             go_roundw
             case rel => exact ⟨k + 1, by omega, by go_num, HS9⟩
             case measure => simp [intOf]; omega
           · have HSK2 : Hid (stepsL (bondC C t) (k + 1) = stepsL (bondC C t) k ++ [[-bv, numP x ((s - 1) * C.f)], [bv, -numP x ((s - 1) * C.f)]]) := by unfold Hid; rw [HSK.out]; unfold samP; rw [if_neg hx0, if_neg hx1]
             have hxb0 : (x == 0) = false := by simpa using hx0
             have hxb1 : (x == 1) = false := by simpa using hx1
             have wy := wrap_id (x := -numP x ((s - 1) * C.f)) (by omega) (by omega)
             have ws := wrap_id (x := s - 1) (by omega) (by omega)
             have wsm := wrap_id (x := (s - 1) * C.f) (by omega) (by omega)
             clear HSK hx0 hx1 hnk
             go_wp2
             go_quiet ((go_at_call 17; refine Calls.quiet_of_same (HNU.out _)))
             have hbq : Below wr.heap.size wr (wr.drewN nq) := bdn (Below.refl _ _) nq
             have HR3 := hide (HR2.out.later hbq)
             clear hbq HR2 fy HNU ws wsm y3 y5 yf ck
             generalize numP x ((s - 1) * C.f) = y at *
             generalize wr.drewN nq = wq at *
             have fy := HX.out.at HR3.out.bel
             have HB1 : Hid (Calls Tryz.prog 15 #[.int .i64 s, .int .i64 k, .pointer (some ⟨F, 0, none⟩), .pointer (some ⟨B, 0, none⟩)] wq fun e w' => e = .returned (.int .i64 bv) ∧ w' = wq) := by rw [← HBV.out]; exact bitI_any fy s k hsf.1 (by omega) ha0 ha1 (by omega)
             clear fy
             go_wp2_with fail
             refine HB1.out.mono ?_
             rintro e v1 ⟨rfl, hv1⟩
             obtain rfl : wq = v1 := hv1.symm
             clear hv1 HB1
             go_wp2_with fail
             refine (addS_two HR3.out hlb1 (-bv) y).mono ?_
             rintro e w3 ⟨rfl, hs4⟩
             have HS4 := hide hs4
             clear hs4 HR3
             have hlb2 : (L ++ stepsL (bondsT C) t ++ stepsL (bondC C t) k ++ [[-bv, y]]).length ≤ 1000000000 := by rw [List.length_append]; simp only [List.length_cons, List.length_nil]; omega
             have fy := HX.out.at HS4.out.bel
             have HB2 : Hid (Calls Tryz.prog 15 #[.int .i64 s, .int .i64 k, .pointer (some ⟨F, 0, none⟩), .pointer (some ⟨B, 0, none⟩)] w3 fun e w' => e = .returned (.int .i64 bv) ∧ w' = w3) := by rw [← HBV.out]; exact bitI_any fy s k hsf.1 (by omega) ha0 ha1 (by omega)
             clear fy
             go_wp2_with fail
             refine HB2.out.mono ?_
             rintro e v2 ⟨rfl, hv2⟩
             obtain rfl : w3 = v2 := hv2.symm
             clear hv2 HB2
             go_wp2_with fail
             refine (addS_two HS4.out hlb2 bv (-y)).mono ?_
             rintro e w4 ⟨rfl, hs9⟩
             have HS9 := hide hs9
             clear hs9 HS4
             have HS10 : Hid (Sc w1 w4 M V (L ++ stepsL (bondsT C) t ++ stepsL (bondC C t) (k + 1))) := by
               have h9 := HS9.out
               unfold Hid
               rw [HSK2.out]
               simpa only [List.append_assoc, List.cons_append, List.nil_append] using h9
             clear HSK2 hlb hlb1 hlb2 wb wy HS9
             go_wp2
             go_roundw
             case rel => exact ⟨k + 1, by omega, by go_num, HS10⟩
             case measure => simp [intOf]; omega
       · obtain rfl : k = C.n.ns.length := by omega
         have hki : ¬ (C.n.ns.length : Int) < C.s := by omega
         have HS9 : Hid (Sc w1 wr M V (L ++ stepsL (bondsT C) (t + 1))) := by unfold Hid; rw [HSU1.out, ← List.append_assoc]; exact HR2.out
         clear fy HR2
         go_wp2
         go_roundw
         case rel => exact ⟨t + 1, s + 1, by omega, by unfold Hid At1; rw [HSS.out]; omega, by go_num, HS9⟩
         case measure => simp [intOf]; omega
   · obtain rfl : t = last := by omega
     have hnt : ¬ s ≤ (t : Int) := by have := HSS.out; omega
     go_wp2
     go_meet
     exact HR
end
end Go.Proofs.YtmambfdimeeijaaGreatDoor
