/- The plain ParseModel: a statement of its round by itself ((((Tryz.f10.body).bind (findBlock 4)).getD .skip)). -/
import Derived.Test.YtabnimgpednhjaaGreatDoorTl1M
import Derived.BigQuiet
import Derived.BigRegion
import Derived.Deep.CutBlock
import Derived.Deep.DeepCutAuto
namespace Go.Proofs.YtabnimgpednhjaaGreatDoor
open Go.RowKit Go.Deep
set_option maxRecDepth 100000

set_option maxHeartbeats 16000000 in
theorem pV {K0 K1 L K2 : Act → World → Prop} {P : Ending → World → Prop} {t0 t1 t2 t3 t4 t5 t6 t7 t8 t10 t11 t15 t16 t17 t18 t19 t20 t21 t22 t23 t24 t25 t26 t27 t28 t29 t30 t31 t32 t33 t34 t35 t36 t37 t38 t39 t40 t41 t42 t43 t44 t45 t46 t47 t48 t49 t50 t51 t52 t53 t54 t55 t56 t57 t58 t59 t60 t61 t62 t63 t64 t65 t66 t67 t68 t69 t70 t71 t72 t73 t74 t75 t76 t77 t78 t79 t80 t81 t82 t83 t84 t85 t86 t87 t88 t89 t90 t91 t92 t93 t94 t95 t96 t97 t98 t99 t100 t101 t102 t103 t104 t105 t106 t107 t108 t109 t110 t111 t112 t113 t114 t115 t116 t117 t118 t119 t120 t121 t122 t123 t124 t125 t126 t127 t128 t129 t130 t131 t132 t133 t134 t135 t136 t137 t138 t139 t140 t141 t142 t143 t144 t145 t146 t147 t148 t149 t150 t151 t152 t153 t154 t155 t156 t157 t158 t159 t160 t161 t162 t163 t164 t165 t166 t167 t168 t169 t170 t171 t172 t173 t174 t175 t176 t177 t178 t179 t180 t181 t182 t183 t184 t185 t186 t187 t188 t189 t190 t191 t192 t193 t194 t195 t196 t197 t198 t199 t200 t201 t202 t203 t204 t205 t206 t207 t208 t209 t210 t211 t212 t213 t214 t215 t216 t217 t218 t219 t220 t221 t222 t223 t224 t225 t226 t227 t228 t229 t230 t231 t232 t233 t234 t235 t236 t237 t238 t239 t240 t241 t242 t243 t244 t245 t246 t247 t248 t249 t250 t251 t252 t253 t254 t255 t256 t257 t258 t259 t260 t261 t262 t263 t264 t265 t266 t267 t268 t269 t270 t271 : Value} {ws : List ByteArray} {a : ByteArray} {wp : Option Addr} {wc9 D : Nat} {w6 : World} {code : Code} (hcode : code = (((Tryz.f10.body).bind (findBlock 4)).getD .skip)) (hwp : 1 ≤ ws.length) (hws : ws.length ≤ 10001) (HW0 : Hid (ws[0]? = some a)) (HD : Hid (D = if sortN a = 0 then 2 else 1)) (hD12 : D = 1 ∨ D = 2) (HST6 : Hid (StrsAt w6 wp ws))
    (HQ : Hid (∀ (v12 v13 v14 v53 v54 v55 v56 v57 v58 v59 v60 v61 v62 v63 v64 v65 v66 v67 v68 v69 v70 v71 v72 v73 v74 v75 v76 v77 v78 v79 v80 v81 v82 v83 v84 v85 v86 v87 v88 v89 v90 v91 v92 v93 v94 v95 v96 v97 v98 v99 v100 v101 : Value) (w' : World), v13 = .bool (fineN D ws ws.length) ∧ Hid (w'.ownsRow w6.heap.size 3 1 v12 (valsN D ws ws.length).length ((valsN D ws ws.length).map (Value.int .i64))) ∧ Hid (Below w6.heap.size w6 w') → K0 ⟨#[t0, t1, t2, t3, t4, t5, t6, t7, t8, .slice wp ws.length wc9, t10, t11, v12, v13, v14, t15, t16, t17, t18, t19, t20, t21, t22, t23, t24, t25, t26, t27, t28, t29, t30, t31, t32, t33, t34, t35, t36, t37, t38, t39, t40, t41, t42, t43, t44, t45, t46, t47, t48, t49, t50, t51, t52, v53, v54, v55, v56, v57, v58, v59, v60, v61, v62, v63, v64, v65, v66, v67, v68, v69, v70, v71, v72, v73, v74, v75, v76, v77, v78, v79, v80, v81, v82, v83, v84, v85, v86, v87, v88, v89, v90, v91, v92, v93, v94, v95, v96, v97, v98, v99, v100, v101, t102, t103, t104, t105, t106, t107, t108, t109, t110, t111, t112, t113, t114, t115, t116, t117, t118, t119, t120, t121, t122, t123, t124, t125, t126, t127, t128, t129, t130, t131, t132, t133, t134, t135, t136, t137, t138, t139, t140, t141, t142, t143, t144, t145, t146, t147, t148, t149, t150, t151, t152, t153, t154, t155, t156, t157, t158, t159, t160, t161, t162, t163, t164, t165, t166, t167, t168, t169, t170, t171, t172, t173, t174, t175, t176, t177, t178, t179, t180, t181, t182, t183, t184, t185, t186, t187, t188, t189, t190, t191, t192, t193, t194, t195, t196, t197, t198, t199, t200, t201, t202, t203, t204, t205, t206, t207, t208, t209, t210, t211, t212, t213, t214, t215, t216, t217, t218, t219, t220, t221, t222, t223, t224, t225, t226, t227, t228, t229, t230, t231, t232, t233, t234, t235, t236, t237, t238, t239, t240, t241, t242, t243, t244, t245, t246, t247, t248, t249, t250, t251, t252, t253, t254, t255, t256, t257, t258, t259, t260, t261, t262, t263, t264, t265, t266, t267, t268, t269, t270, t271], []⟩ w')) :
    Code.wp Tryz.prog code (Exit.then K0 (Exit.inBlock 1 (Exit.then K1 (Exit.then L (Exit.inBlock 0 (Exit.then K2 (bodyPost Tryz.prog Tryz.f10 P))))))) ⟨#[t0, t1, t2, t3, t4, t5, t6, t7, t8, .slice wp ws.length wc9, t10, t11, .slice none 0 0, .bool true, .int .i64 1, t15, t16, t17, t18, t19, t20, t21, t22, t23, t24, t25, t26, t27, t28, t29, t30, t31, t32, t33, t34, t35, t36, t37, t38, t39, t40, t41, t42, t43, t44, t45, t46, t47, t48, t49, t50, t51, t52, t53, t54, t55, t56, t57, t58, t59, t60, t61, t62, t63, t64, t65, t66, t67, t68, t69, t70, t71, t72, t73, t74, t75, t76, t77, t78, t79, t80, t81, t82, t83, t84, t85, t86, t87, t88, t89, t90, t91, t92, t93, t94, t95, t96, t97, t98, t99, t100, t101, t102, t103, t104, t105, t106, t107, t108, t109, t110, t111, t112, t113, t114, t115, t116, t117, t118, t119, t120, t121, t122, t123, t124, t125, t126, t127, t128, t129, t130, t131, t132, t133, t134, t135, t136, t137, t138, t139, t140, t141, t142, t143, t144, t145, t146, t147, t148, t149, t150, t151, t152, t153, t154, t155, t156, t157, t158, t159, t160, t161, t162, t163, t164, t165, t166, t167, t168, t169, t170, t171, t172, t173, t174, t175, t176, t177, t178, t179, t180, t181, t182, t183, t184, t185, t186, t187, t188, t189, t190, t191, t192, t193, t194, t195, t196, t197, t198, t199, t200, t201, t202, t203, t204, t205, t206, t207, t208, t209, t210, t211, t212, t213, t214, t215, t216, t217, t218, t219, t220, t221, t222, t223, t224, t225, t226, t227, t228, t229, t230, t231, t232, t233, t234, t235, t236, t237, t238, t239, t240, t241, t242, t243, t244, t245, t246, t247, t248, t249, t250, t251, t252, t253, t254, t255, t256, t257, t258, t259, t260, t261, t262, t263, t264, t265, t266, t267, t268, t269, t270, t271], []⟩ w6 := by
  subst hcode
  obtain ⟨i0, hi, hz0, hz1, hz2⟩ := info_parts info3
  have HI3 := hide (And.intro hi (And.intro hz0 (And.intro hz1 hz2)))
  clear hi hz0 hz1 hz2
  conv => arg 2; whnf
  dsimp only
  go_wp2_with fail
  go_loopw [12, 13, 14] (fun v f k2 wq => ∃ j : Nat, (1 ≤ j ∧ j ≤ ws.length) ∧ f = .bool (fineN D ws j) ∧ k2 = .int .i64 j ∧ Hid (wq.ownsRow w6.heap.size 3 1 v (valsN D ws j).length ((valsN D ws j).map (Value.int .i64))) ∧ Hid (Below w6.heap.size w6 wq)) (fun _ _ k2 _ => ws.length - (intOf k2).toNat)
  case atStart => exact ⟨1, by omega, by rw [fineN_low (by omega)], rfl, by rw [valsN_low (by omega)]; exact World.ownsRow_nil _ _ _ _, Below.refl _ _⟩
  case round =>
    obtain ⟨j, hj, rfl, rfl, HO, HB⟩ := hrel
    by_cases hjl : j < ws.length
    · have hji : (j : Int) < (ws.length : Int) := by omega
      have h0i : (0 : Int) < (ws.length : Int) := by omega
      obtain ⟨sb, so, hsp, hsc⟩ := (strs_below HST6.out HB.out).cell (by omega)
      subst hsp
      have hc0 := hsc 0 (by omega)
      have hcj := hsc j hjl
      have e0 : ws[0] = a := by have := HW0.out; rw [List.getElem?_eq_getElem (by omega)] at this; exact Option.some.inj this
      rw [e0, Nat.add_zero] at hc0
      clear hsc e0
      go_upto_region 21 with fail
      go_cut [84] (fun b wx => b = .bool (decide (D ≤ j)) ∧ wx = wr)
      case first =>
        obtain ⟨q1, q2, q3, q4⟩ := sort_cmp (a := a) rfl
        have hsb := sortN_bd a
        by_cases hj1 : j = 1
        · subst hj1
          have hs5 : sortN a = 0 ∨ sortN a = 1 ∨ sortN a = 2 ∨ sortN a = 3 ∨ sortN a = 4 := by omega
          rcases hs5 with h | h | h | h | h
          · have HDV := hide (HD.out.trans (show _ = 2 by rw [h]; rfl))
            have p1 : (a.toList == [105, 110, 105, 116]) = false := by rw [q1, h]; rfl
            have p2 : (a.toList == [110, 101, 120, 116]) = false := by rw [q2, h]; rfl
            have p3 : (a.toList == [98, 97, 100]) = false := by rw [q3, h]; rfl
            have p4 : (a.toList == [104, 111, 108, 100]) = false := by rw [q4, h]; rfl
            clear h q1 q2 q3 q4
            go_wp2_with fail
            go_meet
            exact ⟨by rw [HDV.out]; rfl, rfl⟩
          · have HDV := hide (HD.out.trans (show _ = 1 by rw [h]; rfl))
            have p1 : (a.toList == [105, 110, 105, 116]) = true := by rw [q1, h]; rfl
            have p2 : (a.toList == [110, 101, 120, 116]) = false := by rw [q2, h]; rfl
            have p3 : (a.toList == [98, 97, 100]) = false := by rw [q3, h]; rfl
            have p4 : (a.toList == [104, 111, 108, 100]) = false := by rw [q4, h]; rfl
            clear h q1 q2 q3 q4
            go_wp2_with fail
            go_meet
            exact ⟨by rw [HDV.out]; rfl, rfl⟩
          · have HDV := hide (HD.out.trans (show _ = 1 by rw [h]; rfl))
            have p1 : (a.toList == [105, 110, 105, 116]) = false := by rw [q1, h]; rfl
            have p2 : (a.toList == [110, 101, 120, 116]) = true := by rw [q2, h]; rfl
            have p3 : (a.toList == [98, 97, 100]) = false := by rw [q3, h]; rfl
            have p4 : (a.toList == [104, 111, 108, 100]) = false := by rw [q4, h]; rfl
            clear h q1 q2 q3 q4
            go_wp2_with fail
            go_meet
            exact ⟨by rw [HDV.out]; rfl, rfl⟩
          · have HDV := hide (HD.out.trans (show _ = 1 by rw [h]; rfl))
            have p1 : (a.toList == [105, 110, 105, 116]) = false := by rw [q1, h]; rfl
            have p2 : (a.toList == [110, 101, 120, 116]) = false := by rw [q2, h]; rfl
            have p3 : (a.toList == [98, 97, 100]) = true := by rw [q3, h]; rfl
            have p4 : (a.toList == [104, 111, 108, 100]) = false := by rw [q4, h]; rfl
            clear h q1 q2 q3 q4
            go_wp2_with fail
            go_meet
            exact ⟨by rw [HDV.out]; rfl, rfl⟩
          · have HDV := hide (HD.out.trans (show _ = 1 by rw [h]; rfl))
            have p1 : (a.toList == [105, 110, 105, 116]) = false := by rw [q1, h]; rfl
            have p2 : (a.toList == [110, 101, 120, 116]) = false := by rw [q2, h]; rfl
            have p3 : (a.toList == [98, 97, 100]) = false := by rw [q3, h]; rfl
            have p4 : (a.toList == [104, 111, 108, 100]) = true := by rw [q4, h]; rfl
            clear h q1 q2 q3 q4
            go_wp2_with fail
            go_meet
            exact ⟨by rw [HDV.out]; rfl, rfl⟩
        · have hj2 : (1 : Int) < (j : Int) := by omega
          have HDJ : Hid (decide (D ≤ j) = true) := decide_eq_true (by omega)
          clear q1 q2 q3 q4 hj1
          go_wp2_with fail
          go_meet
          exact ⟨by rw [HDJ.out], rfl⟩
      case rest =>
        obtain ⟨rfl, hwc⟩ := hcut
        subst hwc
        by_cases hDj : D ≤ j
        · have hdj : decide (D ≤ j) = true := decide_eq_true hDj
          rw [hdj]
          clear hdj
          have HSJ := hide (valsN_succ hDj hjl)
          have HFJ := hide (fineN_succ hDj hjl)
          have HLJ := hide (valsN_len D ws j)
          have HWJ := hide (List.getElem?_eq_getElem hjl)
          generalize ws[j] = wd at *
          have HUD : Hid (∀ w : World, Calls Tryz.prog 29 #[.string wd] w fun e w' => e = .returned (.int .i64 (undig wd)) ∧ w' = w) := fun w => undigit_any wd w
          generalize undig wd = x at *
          generalize hu : valsN D ws j = u at *
          clear hu hDj
          have hsw := HB.out.size
          go_wp2_with fail
          refine (HUD.out _).mono ?_
          rintro e w7 ⟨rfl, rfl⟩
          go_wp2_with (at_builtin; refine wpList_append_own _ rfl _ _ 24 rfl w6.heap.size 3 i0 (.int .i64 0) 1 8 Tryz.underlying24 HI3.out.1 HI3.out.2.1 HI3.out.2.2.1 HI3.out.2.2.2 rfl (by decide) _ _ _ rfl (HO.out.alloc _) ⟨w7.heap.size, 0, none⟩ 1 1 [.int .i64 x] rfl rfl ?c1 ?c2 ?c3 ?c4 ?c5 ?_)
          case c1 =>
            intro j u hj
            match j, hj with
            | 0, hj => simp at hj; subst hj; simp [Addr.add]
          case c2 => intro u hu; simp at hu; subst hu; rfl
          case c3 => have := HLJ.out; unfold maxLen; omega
          case c4 => have := HLJ.out; omega
          case c5 => simp; omega
          intro v' w3 hown3 hg3 _
          have HV := hide (show w3.ownsRow w6.heap.size 3 1 v' (valsN D ws (j + 1)).length ((valsN D ws (j + 1)).map (Value.int .i64)) ∧ Below w6.heap.size w6 w3 from ⟨by rw [HSJ.out]; simpa using hown3, (HB.out.alloc (by omega) _).grown hg3 (by simp; omega) (fun q hq => (HO.out.lt q hq).1)⟩)
          have hcj3 : w3.cell? ⟨sb, so + j, none⟩ = some (.string wd) := by
            obtain ⟨sb', so', hsp', hsc'⟩ := (strs_below HST6.out HV.out.2).cell (by omega)
            injection hsp' with h1
            injection h1 with h2 h3 _
            subst h2
            subst h3
            have h4 := hsc' j hjl
            have h5 := HWJ.out
            rw [List.getElem?_eq_getElem hjl] at h5
            rw [h4, Option.some.inj h5]
          clear hown3 hg3 HO HB HSJ hcj hc0
          cases hf : fineN D ws j with
          | false =>
            rw [hf] at HFJ
            go_wp2_with fail
            go_roundw
            case rel => first | exact ⟨j + 1, by omega, by rw [HFJ.out]; rfl, by go_num, HV.out.1, HV.out.2⟩ | ((repeat apply Exists.intro); exact ⟨⟨j + 1, by omega, by rw [HFJ.out]; rfl, by go_num, HV.out.1, HV.out.2⟩, rfl⟩)
            case measure => simp [intOf]; omega
          | true =>
            rw [hf] at HFJ
            go_wp2_with fail
            refine (HUD.out _).mono ?_
            rintro e w8 ⟨rfl, rfl⟩
            go_wp2_with fail
            go_roundw
            case rel => first | exact ⟨j + 1, by omega, by rw [HFJ.out]; rfl, by go_num, HV.out.1, HV.out.2⟩ | ((repeat apply Exists.intro); exact ⟨⟨j + 1, by omega, by rw [HFJ.out]; rfl, by go_num, HV.out.1, HV.out.2⟩, rfl⟩)
            case measure => simp [intOf]; omega
        · have hdj : decide (D ≤ j) = false := decide_eq_false hDj
          rw [hdj]
          clear hdj
          obtain rfl : j = 1 := by omega
          have HFJ := hide (show fineN D ws 1 = fineN D ws 2 by rw [fineN_low (by omega), fineN_low (by omega)])
          have HVJ := hide (show valsN D ws 1 = valsN D ws 2 by rw [valsN_low (by omega), valsN_low (by omega)])
          rw [HVJ.out] at HO
          rw [HFJ.out]
          clear hDj
          go_wp2_with fail
          go_roundw
          case rel => first | exact ⟨2, by omega, rfl, rfl, HO, HB⟩ | ((repeat apply Exists.intro); exact ⟨⟨2, by omega, rfl, rfl, HO, HB⟩, rfl⟩)
          case measure => simp [intOf]; omega
    · obtain rfl : j = ws.length := by omega
      have hji : ¬ (ws.length : Int) < (ws.length : Int) := by omega
      go_wp2_with fail
      exact HQ.out _ _ _ _ _ _ _ _ _ _ _ _ _ _ _ _ _ _ _ _ _ _ _ _ _ _ _ _ _ _ _ _ _ _ _ _ _ _ _ _ _ _ _ _ _ _ _ _ _ _ _ _ _ ⟨rfl, HO, HB⟩
end Go.Proofs.YtabnimgpednhjaaGreatDoor

namespace Go.Proofs.YtabnimgpednhjaaGreatDoor
open Go.RowKit Go.Deep
set_option maxRecDepth 100000

set_option maxHeartbeats 16000000 in
theorem pP {K0 K1 L K2 : Act → World → Prop} {P : Ending → World → Prop} {t0 t1 t2 t3 t4 t5 t6 t7 t8 t9 t10 t11 t12 t13 t14 t16 t17 t18 t19 t20 t21 t22 t23 t24 t25 t26 t27 t28 t29 t30 t31 t32 t33 t34 t35 t36 t37 t38 t39 t40 t41 t42 t43 t44 t45 t46 t47 t48 t49 t50 t51 t52 t53 t54 t55 t56 t57 t58 t59 t60 t61 t62 t63 t64 t65 t66 t67 t68 t69 t70 t71 t72 t73 t74 t75 t76 t77 t78 t79 t80 t81 t82 t83 t84 t85 t86 t87 t88 t89 t90 t91 t92 t93 t94 t95 t96 t97 t98 t99 t100 t101 t102 t103 t105 t106 t107 t108 t109 t110 t111 t112 t113 t114 t115 t116 t117 t118 t119 t120 t121 t122 t123 t124 t125 t126 t127 t128 t129 t130 t131 t132 t133 t134 t135 t136 t137 t138 t139 t140 t141 t142 t143 t144 t145 t146 t147 t148 t149 t150 t151 t152 t153 t154 t155 t156 t157 t158 t159 t160 t161 t162 t163 t164 t165 t166 t167 t168 t169 t170 t171 t172 t173 t174 t175 t176 t177 t178 t179 t180 t181 t182 t183 t184 t185 t186 t187 t188 t189 t190 t191 t192 t193 t194 t195 t196 t197 t198 t199 t200 t201 t202 t203 t204 t205 t206 t207 t208 t209 t210 t211 t212 t213 t214 t215 t216 t217 t218 t219 t220 t221 t222 t223 t224 t225 t226 t227 t228 t229 t230 t231 t232 t233 t234 t235 t236 t237 t238 t239 t240 t241 t242 t243 t244 t245 t246 t247 t248 t249 t250 t251 t252 t253 t254 t255 t256 t257 t258 t259 t260 t261 t262 t263 t264 t265 t266 t267 t268 t269 t270 t271 : Value} {a : ByteArray} {w7 : World} {code : Code} (hcode : code = (((Tryz.f10.body).bind (findBlock 6)).getD .skip)) 
    (HQ : Hid (∀ (v15 v105 v106 v107 v108 v109 v110 v111 v112 : Value) (w' : World), v15 = .int .i64 (sortN a : Nat) ∧ w' = w7 → K0 ⟨#[t0, t1, t2, t3, t4, t5, t6, t7, t8, t9, t10, t11, t12, t13, t14, v15, t16, t17, t18, t19, t20, t21, t22, t23, t24, t25, t26, t27, t28, t29, t30, t31, t32, t33, t34, t35, t36, t37, t38, t39, t40, t41, t42, t43, t44, t45, t46, t47, t48, t49, t50, t51, t52, t53, t54, t55, t56, t57, t58, t59, t60, t61, t62, t63, t64, t65, t66, t67, t68, t69, t70, t71, t72, t73, t74, t75, t76, t77, t78, t79, t80, t81, t82, t83, t84, t85, t86, t87, t88, t89, t90, t91, t92, t93, t94, t95, t96, t97, t98, t99, t100, t101, t102, t103, .string a, v105, v106, v107, v108, v109, v110, v111, v112, t113, t114, t115, t116, t117, t118, t119, t120, t121, t122, t123, t124, t125, t126, t127, t128, t129, t130, t131, t132, t133, t134, t135, t136, t137, t138, t139, t140, t141, t142, t143, t144, t145, t146, t147, t148, t149, t150, t151, t152, t153, t154, t155, t156, t157, t158, t159, t160, t161, t162, t163, t164, t165, t166, t167, t168, t169, t170, t171, t172, t173, t174, t175, t176, t177, t178, t179, t180, t181, t182, t183, t184, t185, t186, t187, t188, t189, t190, t191, t192, t193, t194, t195, t196, t197, t198, t199, t200, t201, t202, t203, t204, t205, t206, t207, t208, t209, t210, t211, t212, t213, t214, t215, t216, t217, t218, t219, t220, t221, t222, t223, t224, t225, t226, t227, t228, t229, t230, t231, t232, t233, t234, t235, t236, t237, t238, t239, t240, t241, t242, t243, t244, t245, t246, t247, t248, t249, t250, t251, t252, t253, t254, t255, t256, t257, t258, t259, t260, t261, t262, t263, t264, t265, t266, t267, t268, t269, t270, t271], []⟩ w')) :
    Code.wp Tryz.prog code (Exit.then K0 (Exit.inBlock 1 (Exit.then K1 (Exit.then L (Exit.inBlock 0 (Exit.then K2 (bodyPost Tryz.prog Tryz.f10 P))))))) ⟨#[t0, t1, t2, t3, t4, t5, t6, t7, t8, t9, t10, t11, t12, t13, t14, .int .i64 0, t16, t17, t18, t19, t20, t21, t22, t23, t24, t25, t26, t27, t28, t29, t30, t31, t32, t33, t34, t35, t36, t37, t38, t39, t40, t41, t42, t43, t44, t45, t46, t47, t48, t49, t50, t51, t52, t53, t54, t55, t56, t57, t58, t59, t60, t61, t62, t63, t64, t65, t66, t67, t68, t69, t70, t71, t72, t73, t74, t75, t76, t77, t78, t79, t80, t81, t82, t83, t84, t85, t86, t87, t88, t89, t90, t91, t92, t93, t94, t95, t96, t97, t98, t99, t100, t101, t102, t103, .string a, t105, t106, t107, t108, t109, t110, t111, t112, t113, t114, t115, t116, t117, t118, t119, t120, t121, t122, t123, t124, t125, t126, t127, t128, t129, t130, t131, t132, t133, t134, t135, t136, t137, t138, t139, t140, t141, t142, t143, t144, t145, t146, t147, t148, t149, t150, t151, t152, t153, t154, t155, t156, t157, t158, t159, t160, t161, t162, t163, t164, t165, t166, t167, t168, t169, t170, t171, t172, t173, t174, t175, t176, t177, t178, t179, t180, t181, t182, t183, t184, t185, t186, t187, t188, t189, t190, t191, t192, t193, t194, t195, t196, t197, t198, t199, t200, t201, t202, t203, t204, t205, t206, t207, t208, t209, t210, t211, t212, t213, t214, t215, t216, t217, t218, t219, t220, t221, t222, t223, t224, t225, t226, t227, t228, t229, t230, t231, t232, t233, t234, t235, t236, t237, t238, t239, t240, t241, t242, t243, t244, t245, t246, t247, t248, t249, t250, t251, t252, t253, t254, t255, t256, t257, t258, t259, t260, t261, t262, t263, t264, t265, t266, t267, t268, t269, t270, t271], []⟩ w7 := by
  subst hcode
  conv => arg 2; whnf
  dsimp only
  obtain ⟨q1, q2, q3, q4⟩ := sort_cmp (a := a) rfl
  have hsb := sortN_bd a
  have hs5 : sortN a = 0 ∨ sortN a = 1 ∨ sortN a = 2 ∨ sortN a = 3 ∨ sortN a = 4 := by omega
  rcases hs5 with h | h | h | h | h
  · have HSN := hide h
    have p1 : (a.toList == [105, 110, 105, 116]) = false := by rw [q1, h]; rfl
    have p2 : (a.toList == [110, 101, 120, 116]) = false := by rw [q2, h]; rfl
    have p3 : (a.toList == [98, 97, 100]) = false := by rw [q3, h]; rfl
    have p4 : (a.toList == [104, 111, 108, 100]) = false := by rw [q4, h]; rfl
    clear h q1 q2 q3 q4
    go_wp2_with fail
    exact HQ.out _ _ _ _ _ _ _ _ _ _ ⟨by rw [HSN.out]; rfl, rfl⟩
  · have HSN := hide h
    have p1 : (a.toList == [105, 110, 105, 116]) = true := by rw [q1, h]; rfl
    have p2 : (a.toList == [110, 101, 120, 116]) = false := by rw [q2, h]; rfl
    have p3 : (a.toList == [98, 97, 100]) = false := by rw [q3, h]; rfl
    have p4 : (a.toList == [104, 111, 108, 100]) = false := by rw [q4, h]; rfl
    clear h q1 q2 q3 q4
    go_wp2_with fail
    exact HQ.out _ _ _ _ _ _ _ _ _ _ ⟨by rw [HSN.out]; rfl, rfl⟩
  · have HSN := hide h
    have p1 : (a.toList == [105, 110, 105, 116]) = false := by rw [q1, h]; rfl
    have p2 : (a.toList == [110, 101, 120, 116]) = true := by rw [q2, h]; rfl
    have p3 : (a.toList == [98, 97, 100]) = false := by rw [q3, h]; rfl
    have p4 : (a.toList == [104, 111, 108, 100]) = false := by rw [q4, h]; rfl
    clear h q1 q2 q3 q4
    go_wp2_with fail
    exact HQ.out _ _ _ _ _ _ _ _ _ _ ⟨by rw [HSN.out]; rfl, rfl⟩
  · have HSN := hide h
    have p1 : (a.toList == [105, 110, 105, 116]) = false := by rw [q1, h]; rfl
    have p2 : (a.toList == [110, 101, 120, 116]) = false := by rw [q2, h]; rfl
    have p3 : (a.toList == [98, 97, 100]) = true := by rw [q3, h]; rfl
    have p4 : (a.toList == [104, 111, 108, 100]) = false := by rw [q4, h]; rfl
    clear h q1 q2 q3 q4
    go_wp2_with fail
    exact HQ.out _ _ _ _ _ _ _ _ _ _ ⟨by rw [HSN.out]; rfl, rfl⟩
  · have HSN := hide h
    have p1 : (a.toList == [105, 110, 105, 116]) = false := by rw [q1, h]; rfl
    have p2 : (a.toList == [110, 101, 120, 116]) = false := by rw [q2, h]; rfl
    have p3 : (a.toList == [98, 97, 100]) = false := by rw [q3, h]; rfl
    have p4 : (a.toList == [104, 111, 108, 100]) = true := by rw [q4, h]; rfl
    clear h q1 q2 q3 q4
    go_wp2_with fail
    exact HQ.out _ _ _ _ _ _ _ _ _ _ ⟨by rw [HSN.out]; rfl, rfl⟩
end Go.Proofs.YtabnimgpednhjaaGreatDoor
