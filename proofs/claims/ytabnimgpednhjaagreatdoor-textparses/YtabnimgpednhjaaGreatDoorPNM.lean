/- The plain ParseModel: what a node's line does behind its looks. -/
import Derived.Test.YtabnimgpednhjaaGreatDoorKt
import Derived.Test.YtabnimgpednhjaaGreatDoorTl1M
import Derived.BigQuiet
import Derived.BigRegion
import Derived.Deep.CutBlock
import Derived.Deep.DeepCutAuto
namespace Go.Proofs.YtabnimgpednhjaaGreatDoor
open Go.RowKit Go.Deep
set_option maxRecDepth 100000

set_option maxHeartbeats 8000000 in
theorem tn4 {K1 L K2 : Act → World → Prop} {P : Ending → World → Prop} {t0 t1 t2 t3 t4 t5 t8 t9 t11 t14 t17 t18 t19 t20 t21 t22 t23 t24 t25 t26 t27 t28 t29 t30 t31 t32 t33 t34 t35 t36 t37 t38 t39 t40 t41 t42 t43 t44 t45 t46 t47 t48 t49 t50 t51 t52 t53 t54 t55 t56 t57 t58 t59 t60 t61 t62 t63 t64 t65 t66 t67 t68 t69 t70 t71 t72 t73 t74 t75 t76 t77 t78 t79 t80 t81 t82 t83 t84 t85 t86 t87 t88 t89 t90 t91 t92 t93 t94 t95 t96 t97 t98 t99 t100 t101 t102 t103 t104 t105 t106 t107 t108 t109 t110 t111 t112 t113 t114 t115 t116 t117 t118 t119 t120 t121 t122 t123 t124 t125 t126 t127 t128 t129 t130 t131 t132 t133 t134 t135 t136 t137 t138 t139 t140 t141 t142 t143 t144 t145 t146 t147 t148 t149 t150 t151 t152 t153 t154 t155 t156 t157 t158 t159 t160 t161 t162 t163 t164 t165 t166 t167 t168 t169 t170 t171 t172 t173 t174 t175 t176 t177 t178 t179 t180 t181 t182 t183 t184 t185 t186 t187 t188 t189 t190 t191 t192 t193 t194 t195 t196 t197 t198 t199 t200 t201 t202 t203 t204 t205 t206 t207 t208 t209 t210 t211 t212 t213 t214 t215 t216 t217 t218 t219 t220 t221 t222 t223 t224 t225 t226 t227 t228 t229 t230 t231 t232 t233 t234 t235 t236 t237 t238 t239 t240 t241 t242 t243 t244 t245 t246 t247 t248 t249 t250 t251 t252 t253 t254 t255 t256 t257 t258 t259 t260 t261 t262 t263 t264 t265 t266 t267 t268 t269 t270 t271 : Value} {R vb vo vc kd : Nat} {x0 x1 x2 : Int} {m : Md} {w : World} {code : Code} (hcode : code = (((Tryz.f10.body).bind (findLead 42)).getD .skip)) (hsz : R ≤ w.heap.size) (n0 : w.cell? ⟨vb, vo, none⟩ = some (.int .i64 x0)) (n1 : w.cell? ⟨vb, vo + 1, none⟩ = some (.int .i64 x1)) (n2 : w.cell? ⟨vb, vo + 2, none⟩ = some (.int .i64 x2)) (HM : Hid (HoldsP w R m)) (hll : m.ns.length ≤ 100000) (k1 : ((kd : Int) == 1) = false) (k21 : ((kd : Int) == 21) = false)
    (HTK : Hid (∀ w : World, Calls Tryz.prog 24 #[.int .i64 (kd : Int)] w fun e w' => e = .returned (.int .i64 2) ∧ w' = w)) (hlo : ¬ (0 : Int) < (m.last : Int))
    (HQ : Hid (∀ (v3 v4 v17 v143 v144 v145 v146 v147 v148 v149 v150 v151 v152 v153 v154 v155 v156 v157 v158 v159 v160 v161 v162 v163 v164 v165 v166 v167 v168 v169 v170 v171 v172 v173 v174 v175 v176 v177 v178 v179 v180 v181 v182 v183 v184 v185 v186 v187 v188 v189 v190 v191 v192 v193 v194 v195 v196 v197 v198 v199 v200 v201 v202 v203 v204 v205 v206 v207 v208 v209 v210 v211 v212 v213 v214 v215 v216 v217 v218 v219 v220 v221 v222 v223 v224 v225 v226 v227 v228 v229 v230 v231 v232 v233 v234 v235 v236 v237 v238 v239 v240 v241 v242 v243 v244 v245 v246 v247 v248 v249 v250 v251 v252 v253 v254 : Value) (w' : World), HoldsP w' R { m with ns := m.ns ++ [(⟨(kd : Int), x0, x1, x2, 0, 0⟩ : Ev.Nd)], last := 0 } → Below R w w' → K1 ⟨#[t0, t1, t2, v3, v4, t5, .pointer (some ⟨R, 0, none⟩), .int .i64 0, t8, t9, .int .i64 (kd : Int), t11, .slice (some ⟨vb, vo, none⟩) 3 vc, .bool true, t14, .int .i64 0, .int .i64 3, v17, t18, t19, t20, t21, t22, t23, t24, t25, t26, t27, t28, t29, t30, t31, t32, t33, t34, t35, t36, t37, t38, t39, t40, t41, t42, t43, t44, t45, t46, t47, t48, t49, t50, t51, t52, t53, t54, t55, t56, t57, t58, t59, t60, t61, t62, t63, t64, t65, t66, t67, t68, t69, t70, t71, t72, t73, t74, t75, t76, t77, t78, t79, t80, t81, t82, t83, t84, t85, t86, t87, t88, t89, t90, t91, t92, t93, t94, t95, t96, t97, t98, t99, t100, t101, t102, t103, t104, t105, t106, t107, t108, t109, t110, t111, t112, t113, t114, t115, t116, t117, t118, t119, t120, t121, t122, t123, t124, t125, t126, t127, t128, t129, t130, t131, t132, t133, t134, t135, t136, t137, t138, t139, t140, t141, t142, v143, v144, v145, v146, v147, v148, v149, v150, v151, v152, v153, v154, v155, v156, v157, v158, v159, v160, v161, v162, v163, v164, v165, v166, v167, v168, v169, v170, v171, v172, v173, v174, v175, v176, v177, v178, v179, v180, v181, v182, v183, v184, v185, v186, v187, v188, v189, v190, v191, v192, v193, v194, v195, v196, v197, v198, v199, v200, v201, v202, v203, v204, v205, v206, v207, v208, v209, v210, v211, v212, v213, v214, v215, v216, v217, v218, v219, v220, v221, v222, v223, v224, v225, v226, v227, v228, v229, v230, v231, v232, v233, v234, v235, v236, v237, v238, v239, v240, v241, v242, v243, v244, v245, v246, v247, v248, v249, v250, v251, v252, v253, v254, t255, t256, t257, t258, t259, t260, t261, t262, t263, t264, t265, t266, t267, t268, t269, t270, t271], []⟩ w')) :
    Code.wp Tryz.prog code (Exit.inBlock 1 (Exit.then K1 (Exit.then L (Exit.inBlock 0 (Exit.then K2 (bodyPost Tryz.prog Tryz.f10 P)))))) ⟨#[t0, t1, t2, t3, t4, t5, .pointer (some ⟨R, 0, none⟩), .int .i64 (m.last : Nat), t8, t9, .int .i64 (kd : Int), t11, .slice (some ⟨vb, vo, none⟩) 3 vc, .bool true, t14, .int .i64 0, .int .i64 3, t17, t18, t19, t20, t21, t22, t23, t24, t25, t26, t27, t28, t29, t30, t31, t32, t33, t34, t35, t36, t37, t38, t39, t40, t41, t42, t43, t44, t45, t46, t47, t48, t49, t50, t51, t52, t53, t54, t55, t56, t57, t58, t59, t60, t61, t62, t63, t64, t65, t66, t67, t68, t69, t70, t71, t72, t73, t74, t75, t76, t77, t78, t79, t80, t81, t82, t83, t84, t85, t86, t87, t88, t89, t90, t91, t92, t93, t94, t95, t96, t97, t98, t99, t100, t101, t102, t103, t104, t105, t106, t107, t108, t109, t110, t111, t112, t113, t114, t115, t116, t117, t118, t119, t120, t121, t122, t123, t124, t125, t126, t127, t128, t129, t130, t131, t132, t133, t134, t135, t136, t137, t138, t139, t140, t141, t142, t143, t144, t145, t146, t147, t148, t149, t150, t151, t152, t153, t154, t155, t156, t157, t158, t159, t160, t161, t162, t163, t164, t165, t166, t167, t168, t169, t170, t171, t172, t173, t174, t175, t176, t177, t178, t179, t180, t181, t182, t183, t184, t185, t186, t187, t188, t189, t190, t191, t192, t193, t194, t195, t196, t197, t198, t199, t200, t201, t202, t203, t204, t205, t206, t207, t208, t209, t210, t211, t212, t213, t214, t215, t216, t217, t218, t219, t220, t221, t222, t223, t224, t225, t226, t227, t228, t229, t230, t231, t232, t233, t234, t235, t236, t237, t238, t239, t240, t241, t242, t243, t244, t245, t246, t247, t248, t249, t250, t251, t252, t253, t254, t255, t256, t257, t258, t259, t260, t261, t262, t263, t264, t265, t266, t267, t268, t269, t270, t271], []⟩ w := by
  subst hcode
  conv => arg 2; whnf
  dsimp only
  go_upto_block 7 with fail
  refine swn4 (by simp only [Tryz.f10, findBlock, Option.bind, Option.getD, Nat.reduceEqDiff, reduceIte]) hsz n0 n1 n2 HM hll k1 k21 HTK (hide ?_)
  intros
  rename_i wx hx1 hx2
  dsimp only
  exact HQ.out _ _ _ _ _ _ _ _ _ _ _ _ _ _ _ _ _ _ _ _ _ _ _ _ _ _ _ _ _ _ _ _ _ _ _ _ _ _ _ _ _ _ _ _ _ _ _ _ _ _ _ _ _ _ _ _ _ _ _ _ _ _ _ _ _ _ _ _ _ _ _ _ _ _ _ _ _ _ _ _ _ _ _ _ _ _ _ _ _ _ _ _ _ _ _ _ _ _ _ _ _ _ _ _ _ _ _ _ _ _ _ _ _ _ _ wx hx1 hx2
end Go.Proofs.YtabnimgpednhjaaGreatDoor

namespace Go.Proofs.YtabnimgpednhjaaGreatDoor
open Go.RowKit Go.Deep
set_option maxRecDepth 100000

set_option maxHeartbeats 8000000 in
theorem tn5 {K1 L K2 : Act → World → Prop} {P : Ending → World → Prop} {t0 t1 t2 t3 t4 t5 t8 t9 t11 t14 t17 t18 t19 t20 t21 t22 t23 t24 t25 t26 t27 t28 t29 t30 t31 t32 t33 t34 t35 t36 t37 t38 t39 t40 t41 t42 t43 t44 t45 t46 t47 t48 t49 t50 t51 t52 t53 t54 t55 t56 t57 t58 t59 t60 t61 t62 t63 t64 t65 t66 t67 t68 t69 t70 t71 t72 t73 t74 t75 t76 t77 t78 t79 t80 t81 t82 t83 t84 t85 t86 t87 t88 t89 t90 t91 t92 t93 t94 t95 t96 t97 t98 t99 t100 t101 t102 t103 t104 t105 t106 t107 t108 t109 t110 t111 t112 t113 t114 t115 t116 t117 t118 t119 t120 t121 t122 t123 t124 t125 t126 t127 t128 t129 t130 t131 t132 t133 t134 t135 t136 t137 t138 t139 t140 t141 t142 t143 t144 t145 t146 t147 t148 t149 t150 t151 t152 t153 t154 t155 t156 t157 t158 t159 t160 t161 t162 t163 t164 t165 t166 t167 t168 t169 t170 t171 t172 t173 t174 t175 t176 t177 t178 t179 t180 t181 t182 t183 t184 t185 t186 t187 t188 t189 t190 t191 t192 t193 t194 t195 t196 t197 t198 t199 t200 t201 t202 t203 t204 t205 t206 t207 t208 t209 t210 t211 t212 t213 t214 t215 t216 t217 t218 t219 t220 t221 t222 t223 t224 t225 t226 t227 t228 t229 t230 t231 t232 t233 t234 t235 t236 t237 t238 t239 t240 t241 t242 t243 t244 t245 t246 t247 t248 t249 t250 t251 t252 t253 t254 t255 t256 t257 t258 t259 t260 t261 t262 t263 t264 t265 t266 t267 t268 t269 t270 t271 : Value} {R vb vo vc kd : Nat} {x0 x1 x2 x3 : Int} {m : Md} {w : World} {code : Code} (hcode : code = (((Tryz.f10.body).bind (findLead 42)).getD .skip)) (hsz : R ≤ w.heap.size) (n0 : w.cell? ⟨vb, vo, none⟩ = some (.int .i64 x0)) (n1 : w.cell? ⟨vb, vo + 1, none⟩ = some (.int .i64 x1)) (n2 : w.cell? ⟨vb, vo + 2, none⟩ = some (.int .i64 x2)) (n3 : w.cell? ⟨vb, vo + 3, none⟩ = some (.int .i64 x3)) (HM : Hid (HoldsP w R m)) (hll : m.ns.length ≤ 100000) (k1 : ((kd : Int) == 1) = false) (k21 : ((kd : Int) == 21) = false)
    (HTK : Hid (∀ w : World, Calls Tryz.prog 24 #[.int .i64 (kd : Int)] w fun e w' => e = .returned (.int .i64 3) ∧ w' = w)) (hlo : ¬ (0 : Int) < (m.last : Int))
    (HQ : Hid (∀ (v3 v4 v17 v143 v144 v145 v146 v147 v148 v149 v150 v151 v152 v153 v154 v155 v156 v157 v158 v159 v160 v161 v162 v163 v164 v165 v166 v167 v168 v169 v170 v171 v172 v173 v174 v175 v176 v177 v178 v179 v180 v181 v182 v183 v184 v185 v186 v187 v188 v189 v190 v191 v192 v193 v194 v195 v196 v197 v198 v199 v200 v201 v202 v203 v204 v205 v206 v207 v208 v209 v210 v211 v212 v213 v214 v215 v216 v217 v218 v219 v220 v221 v222 v223 v224 v225 v226 v227 v228 v229 v230 v231 v232 v233 v234 v235 v236 v237 v238 v239 v240 v241 v242 v243 v244 v245 v246 v247 v248 v249 v250 v251 v252 v253 v254 : Value) (w' : World), HoldsP w' R { m with ns := m.ns ++ [(⟨(kd : Int), x0, x1, x2, x3, 0⟩ : Ev.Nd)], last := 0 } → Below R w w' → K1 ⟨#[t0, t1, t2, v3, v4, t5, .pointer (some ⟨R, 0, none⟩), .int .i64 0, t8, t9, .int .i64 (kd : Int), t11, .slice (some ⟨vb, vo, none⟩) 4 vc, .bool true, t14, .int .i64 0, .int .i64 4, v17, t18, t19, t20, t21, t22, t23, t24, t25, t26, t27, t28, t29, t30, t31, t32, t33, t34, t35, t36, t37, t38, t39, t40, t41, t42, t43, t44, t45, t46, t47, t48, t49, t50, t51, t52, t53, t54, t55, t56, t57, t58, t59, t60, t61, t62, t63, t64, t65, t66, t67, t68, t69, t70, t71, t72, t73, t74, t75, t76, t77, t78, t79, t80, t81, t82, t83, t84, t85, t86, t87, t88, t89, t90, t91, t92, t93, t94, t95, t96, t97, t98, t99, t100, t101, t102, t103, t104, t105, t106, t107, t108, t109, t110, t111, t112, t113, t114, t115, t116, t117, t118, t119, t120, t121, t122, t123, t124, t125, t126, t127, t128, t129, t130, t131, t132, t133, t134, t135, t136, t137, t138, t139, t140, t141, t142, v143, v144, v145, v146, v147, v148, v149, v150, v151, v152, v153, v154, v155, v156, v157, v158, v159, v160, v161, v162, v163, v164, v165, v166, v167, v168, v169, v170, v171, v172, v173, v174, v175, v176, v177, v178, v179, v180, v181, v182, v183, v184, v185, v186, v187, v188, v189, v190, v191, v192, v193, v194, v195, v196, v197, v198, v199, v200, v201, v202, v203, v204, v205, v206, v207, v208, v209, v210, v211, v212, v213, v214, v215, v216, v217, v218, v219, v220, v221, v222, v223, v224, v225, v226, v227, v228, v229, v230, v231, v232, v233, v234, v235, v236, v237, v238, v239, v240, v241, v242, v243, v244, v245, v246, v247, v248, v249, v250, v251, v252, v253, v254, t255, t256, t257, t258, t259, t260, t261, t262, t263, t264, t265, t266, t267, t268, t269, t270, t271], []⟩ w')) :
    Code.wp Tryz.prog code (Exit.inBlock 1 (Exit.then K1 (Exit.then L (Exit.inBlock 0 (Exit.then K2 (bodyPost Tryz.prog Tryz.f10 P)))))) ⟨#[t0, t1, t2, t3, t4, t5, .pointer (some ⟨R, 0, none⟩), .int .i64 (m.last : Nat), t8, t9, .int .i64 (kd : Int), t11, .slice (some ⟨vb, vo, none⟩) 4 vc, .bool true, t14, .int .i64 0, .int .i64 4, t17, t18, t19, t20, t21, t22, t23, t24, t25, t26, t27, t28, t29, t30, t31, t32, t33, t34, t35, t36, t37, t38, t39, t40, t41, t42, t43, t44, t45, t46, t47, t48, t49, t50, t51, t52, t53, t54, t55, t56, t57, t58, t59, t60, t61, t62, t63, t64, t65, t66, t67, t68, t69, t70, t71, t72, t73, t74, t75, t76, t77, t78, t79, t80, t81, t82, t83, t84, t85, t86, t87, t88, t89, t90, t91, t92, t93, t94, t95, t96, t97, t98, t99, t100, t101, t102, t103, t104, t105, t106, t107, t108, t109, t110, t111, t112, t113, t114, t115, t116, t117, t118, t119, t120, t121, t122, t123, t124, t125, t126, t127, t128, t129, t130, t131, t132, t133, t134, t135, t136, t137, t138, t139, t140, t141, t142, t143, t144, t145, t146, t147, t148, t149, t150, t151, t152, t153, t154, t155, t156, t157, t158, t159, t160, t161, t162, t163, t164, t165, t166, t167, t168, t169, t170, t171, t172, t173, t174, t175, t176, t177, t178, t179, t180, t181, t182, t183, t184, t185, t186, t187, t188, t189, t190, t191, t192, t193, t194, t195, t196, t197, t198, t199, t200, t201, t202, t203, t204, t205, t206, t207, t208, t209, t210, t211, t212, t213, t214, t215, t216, t217, t218, t219, t220, t221, t222, t223, t224, t225, t226, t227, t228, t229, t230, t231, t232, t233, t234, t235, t236, t237, t238, t239, t240, t241, t242, t243, t244, t245, t246, t247, t248, t249, t250, t251, t252, t253, t254, t255, t256, t257, t258, t259, t260, t261, t262, t263, t264, t265, t266, t267, t268, t269, t270, t271], []⟩ w := by
  subst hcode
  conv => arg 2; whnf
  dsimp only
  go_upto_block 7 with fail
  refine swn5 (by simp only [Tryz.f10, findBlock, Option.bind, Option.getD, Nat.reduceEqDiff, reduceIte]) hsz n0 n1 n2 n3 HM hll k1 k21 HTK (hide ?_)
  intros
  rename_i wx hx1 hx2
  dsimp only
  exact HQ.out _ _ _ _ _ _ _ _ _ _ _ _ _ _ _ _ _ _ _ _ _ _ _ _ _ _ _ _ _ _ _ _ _ _ _ _ _ _ _ _ _ _ _ _ _ _ _ _ _ _ _ _ _ _ _ _ _ _ _ _ _ _ _ _ _ _ _ _ _ _ _ _ _ _ _ _ _ _ _ _ _ _ _ _ _ _ _ _ _ _ _ _ _ _ _ _ _ _ _ _ _ _ _ _ _ _ _ _ _ _ _ _ _ _ _ wx hx1 hx2
end Go.Proofs.YtabnimgpednhjaaGreatDoor

namespace Go.Proofs.YtabnimgpednhjaaGreatDoor
open Go.RowKit Go.Deep
set_option maxRecDepth 100000

set_option maxHeartbeats 16000000 in
theorem pN {K0 K1 L K2 : Act → World → Prop} {P : Ending → World → Prop} {t0 t1 t2 t3 t4 t5 t7 t8 t11 t12 t14 t15 t16 t17 t18 t19 t20 t21 t22 t23 t24 t25 t26 t27 t28 t29 t30 t31 t32 t33 t34 t35 t36 t37 t38 t39 t40 t41 t42 t43 t44 t45 t46 t47 t48 t49 t50 t51 t52 t53 t54 t55 t56 t57 t58 t59 t60 t61 t62 t63 t64 t65 t66 t67 t68 t69 t70 t71 t72 t73 t74 t75 t76 t77 t78 t79 t80 t81 t82 t83 t84 t85 t86 t87 t88 t89 t90 t91 t92 t93 t94 t95 t96 t97 t98 t99 t100 t101 t102 t103 t104 t105 t106 t107 t108 t109 t110 t111 t112 t113 t114 t115 t117 t118 t119 t120 t121 t122 t123 t124 t125 t126 t127 t128 t129 t130 t131 t132 t133 t134 t135 t136 t137 t138 t139 t140 t141 t142 t143 t144 t145 t146 t147 t148 t149 t150 t151 t152 t153 t154 t155 t156 t157 t158 t159 t160 t161 t162 t163 t164 t165 t166 t167 t168 t169 t170 t171 t172 t173 t174 t175 t176 t177 t178 t179 t180 t181 t182 t183 t184 t185 t186 t187 t188 t189 t190 t191 t192 t193 t194 t195 t196 t197 t198 t199 t200 t201 t202 t203 t204 t205 t206 t207 t208 t209 t210 t211 t212 t213 t214 t215 t216 t217 t218 t219 t220 t221 t222 t223 t224 t225 t226 t227 t228 t229 t230 t231 t232 t233 t234 t235 t236 t237 t238 t239 t240 t241 t242 t243 t244 t245 t246 t247 t248 t249 t250 t251 t252 t253 t254 t255 t256 t257 t258 t259 t260 t261 t262 t263 t264 t265 t266 t267 t268 t269 t270 t271 : Value} {ws : List ByteArray} {a : ByteArray} {R sb so wc9 kd c0 : Nat} {a0 : Option Addr} {ua : Int} {F : Bool} {m : Md} {w7 : World} {code : Code} (hcode : code = (((Tryz.f10.body).bind (findIf 116)).getD .skip)) (r0 : w7.cell? ⟨R, 0, none⟩ = some (.slice a0 m.ns.length c0)) (hc0 : w7.cell? ⟨sb, so, none⟩ = some (.string a)) (h0i : (0 : Int) < (ws.length : Int)) (hws : ws.length ≤ 10001) (HUA : Hid (∀ w : World, Calls Tryz.prog 29 #[.string a] w fun e w' => e = .returned (.int .i64 ua) ∧ w' = w))
    (HQ : Hid (∀ (v13 v16 v117 v118 v119 v120 v121 v122 v123 v124 v125 v126 v127 v128 v129 v130 v131 v132 v133 v134 v135 v136 v137 v138 v139 v140 v141 v142 : Value) (w' : World), v13 = .bool (F && decide (ua = (m.ns.length : Int)) && decide (0 < kd)) ∧ v16 = .int .i64 (manyN (kd : Int) : Nat) ∧ Hid (Below w7.heap.size w7 w') → K0 ⟨#[t0, t1, t2, t3, t4, t5, .pointer (some ⟨R, 0, none⟩), t7, t8, .slice (some ⟨sb, so, none⟩) ws.length wc9, .int .i64 (kd : Nat), t11, t12, v13, t14, t15, v16, t17, t18, t19, t20, t21, t22, t23, t24, t25, t26, t27, t28, t29, t30, t31, t32, t33, t34, t35, t36, t37, t38, t39, t40, t41, t42, t43, t44, t45, t46, t47, t48, t49, t50, t51, t52, t53, t54, t55, t56, t57, t58, t59, t60, t61, t62, t63, t64, t65, t66, t67, t68, t69, t70, t71, t72, t73, t74, t75, t76, t77, t78, t79, t80, t81, t82, t83, t84, t85, t86, t87, t88, t89, t90, t91, t92, t93, t94, t95, t96, t97, t98, t99, t100, t101, t102, t103, t104, t105, t106, t107, t108, t109, t110, t111, t112, t113, t114, t115, .bool true, v117, v118, v119, v120, v121, v122, v123, v124, v125, v126, v127, v128, v129, v130, v131, v132, v133, v134, v135, v136, v137, v138, v139, v140, v141, v142, t143, t144, t145, t146, t147, t148, t149, t150, t151, t152, t153, t154, t155, t156, t157, t158, t159, t160, t161, t162, t163, t164, t165, t166, t167, t168, t169, t170, t171, t172, t173, t174, t175, t176, t177, t178, t179, t180, t181, t182, t183, t184, t185, t186, t187, t188, t189, t190, t191, t192, t193, t194, t195, t196, t197, t198, t199, t200, t201, t202, t203, t204, t205, t206, t207, t208, t209, t210, t211, t212, t213, t214, t215, t216, t217, t218, t219, t220, t221, t222, t223, t224, t225, t226, t227, t228, t229, t230, t231, t232, t233, t234, t235, t236, t237, t238, t239, t240, t241, t242, t243, t244, t245, t246, t247, t248, t249, t250, t251, t252, t253, t254, t255, t256, t257, t258, t259, t260, t261, t262, t263, t264, t265, t266, t267, t268, t269, t270, t271], []⟩ w')) :
    Code.wp Tryz.prog code (Exit.then K0 (Exit.inBlock 1 (Exit.then K1 (Exit.then L (Exit.inBlock 0 (Exit.then K2 (bodyPost Tryz.prog Tryz.f10 P))))))) ⟨#[t0, t1, t2, t3, t4, t5, .pointer (some ⟨R, 0, none⟩), t7, t8, .slice (some ⟨sb, so, none⟩) ws.length wc9, .int .i64 (kd : Nat), t11, t12, .bool F, t14, t15, t16, t17, t18, t19, t20, t21, t22, t23, t24, t25, t26, t27, t28, t29, t30, t31, t32, t33, t34, t35, t36, t37, t38, t39, t40, t41, t42, t43, t44, t45, t46, t47, t48, t49, t50, t51, t52, t53, t54, t55, t56, t57, t58, t59, t60, t61, t62, t63, t64, t65, t66, t67, t68, t69, t70, t71, t72, t73, t74, t75, t76, t77, t78, t79, t80, t81, t82, t83, t84, t85, t86, t87, t88, t89, t90, t91, t92, t93, t94, t95, t96, t97, t98, t99, t100, t101, t102, t103, t104, t105, t106, t107, t108, t109, t110, t111, t112, t113, t114, t115, .bool true, t117, t118, t119, t120, t121, t122, t123, t124, t125, t126, t127, t128, t129, t130, t131, t132, t133, t134, t135, t136, t137, t138, t139, t140, t141, t142, t143, t144, t145, t146, t147, t148, t149, t150, t151, t152, t153, t154, t155, t156, t157, t158, t159, t160, t161, t162, t163, t164, t165, t166, t167, t168, t169, t170, t171, t172, t173, t174, t175, t176, t177, t178, t179, t180, t181, t182, t183, t184, t185, t186, t187, t188, t189, t190, t191, t192, t193, t194, t195, t196, t197, t198, t199, t200, t201, t202, t203, t204, t205, t206, t207, t208, t209, t210, t211, t212, t213, t214, t215, t216, t217, t218, t219, t220, t221, t222, t223, t224, t225, t226, t227, t228, t229, t230, t231, t232, t233, t234, t235, t236, t237, t238, t239, t240, t241, t242, t243, t244, t245, t246, t247, t248, t249, t250, t251, t252, t253, t254, t255, t256, t257, t258, t259, t260, t261, t262, t263, t264, t265, t266, t267, t268, t269, t270, t271], []⟩ w7 := by
  subst hcode
  conv => arg 2; whnf
  dsimp only
  obtain ⟨tk, htk3, htk⟩ : ∃ tk : Nat, tk ≤ 3 ∧ Ev.takes (kd : Int) = (tk : Int) := by
    rcases Ev.takes_four (kd : Int) with h | h | h | h
    · exact ⟨0, by omega, by rw [h]; rfl⟩
    · exact ⟨1, by omega, by rw [h]; rfl⟩
    · exact ⟨2, by omega, by rw [h]; rfl⟩
    · exact ⟨3, by omega, by rw [h]; rfl⟩
  have HTK : Hid (∀ w : World, Calls Tryz.prog 24 #[.int .i64 (kd : Int)] w fun e w' => e = .returned (.int .i64 (tk : Int)) ∧ w' = w) := fun w => by have h := Ev.takes_any (kd : Int) w; rw [htk] at h; exact h
  have HMA : Hid (∀ N : Bool, hasN (kd : Int) = N → manyN (kd : Int) = 1 + tk + if N then 1 else 0) := fun N h => by unfold manyN; rw [htk, h, Int.toNat_natCast]
  have hw1 : wrap64 (1 + (tk : Int)) = 1 + (tk : Int) := by unfold wrap64; omega
  have hw2 : wrap64 (1 + (tk : Int) + 1) = 1 + (tk : Int) + 1 := by unfold wrap64; omega
  have hkp : decide ((0 : Int) < (kd : Int)) = decide (0 < kd) := by simp
  clear htk
  go_wp2_with fail
  refine (HTK.out _).mono ?_
  rintro e w8 ⟨rfl, hw8⟩
  obtain rfl : w7 = w8 := hw8.symm
  go_upto_region 39 with fail
  go_cut [125] from 117 to 142 (fun b wx => b = .bool (hasN (kd : Int)) ∧ wx = w7)
  case first =>
    have h3k : kd = 1 ∨ kd = 21 ∨ (kd ≠ 1 ∧ kd ≠ 21) := by omega
    rcases h3k with hk1 | hk1 | hk1
    · have k1 : ((kd : Int) == 1) = true := by simp; omega
      have k21 : ((kd : Int) == 21) = false := by simp; omega
      have HNN := hide (show hasN (kd : Int) = true by unfold hasN; simp; omega)
      clear hk1
      go_wp2_with fail
      go_meet
      exact ⟨by rw [HNN.out], rfl⟩
    · have k1 : ((kd : Int) == 1) = false := by simp; omega
      have k21 : ((kd : Int) == 21) = true := by simp; omega
      have HNN := hide (show hasN (kd : Int) = true by unfold hasN; simp; omega)
      clear hk1
      go_wp2_with fail
      go_meet
      exact ⟨by rw [HNN.out], rfl⟩
    · have k1 : ((kd : Int) == 1) = false := by simp; omega
      have k21 : ((kd : Int) == 21) = false := by simp; omega
      have HNN := hide (show hasN (kd : Int) = false by unfold hasN; simp; omega)
      clear hk1
      go_wp2_with fail
      go_meet
      exact ⟨by rw [HNN.out], rfl⟩
  case rest =>
   obtain ⟨rfl, hwc⟩ := hcut
   obtain rfl : w7 = wc := hwc.symm
   go_upto_if 125 with fail
   go_cut [16] from 117 to 142 (fun wt wx => wt = .int .i64 (manyN (kd : Int) : Nat) ∧ wx = w7)
   case first =>
    cases hN : hasN (kd : Int) with
    | true =>
      have HMN := hide (HMA.out true hN)
      clear hN
      go_wp2_with fail
      go_meet
      exact ⟨by rw [HMN.out]; simp, rfl⟩
    | false =>
      have HMN := hide (HMA.out false hN)
      clear hN
      go_wp2_with fail
      go_meet
      exact ⟨by rw [HMN.out]; simp, rfl⟩
   case rest =>
    obtain ⟨rfl, hwc⟩ := hcut
    obtain rfl : w7 = wc := hwc.symm
    cases F with
    | false =>
      go_wp2_with fail
      go_quiet (fail)
      go_wp2_with fail
      exact HQ.out _ _ _ _ _ _ _ _ _ _ _ _ _ _ _ _ _ _ _ _ _ _ _ _ _ _ _ _ _ ⟨rfl, rfl, (show Below _ _ _ from ⟨rfl, rfl, rfl, Nat.le_refl _, fun _ _ => rfl⟩)⟩
    | true =>
      by_cases hu : ua = (m.ns.length : Int)
      · have hu2 : (ua == (m.ns.length : Int)) = true := by simpa using hu
        have HU := hide (decide_eq_true hu)
        clear hu
        go_wp2_with fail
        go_quiet ((go_at_call 29; refine Calls.quiet_of_same (HUA.out _)))
        go_wp2_with fail
        exact HQ.out _ _ _ _ _ _ _ _ _ _ _ _ _ _ _ _ _ _ _ _ _ _ _ _ _ _ _ _ _ ⟨by rw [HU.out]; simp, rfl, (show Below _ _ _ from ⟨rfl, rfl, rfl, Nat.le_refl _, fun _ _ => rfl⟩)⟩
      · have hu2 : (ua == (m.ns.length : Int)) = false := by simpa using hu
        have HU := hide (decide_eq_false hu)
        clear hu
        go_wp2_with fail
        go_quiet ((go_at_call 29; refine Calls.quiet_of_same (HUA.out _)))
        go_wp2_with fail
        exact HQ.out _ _ _ _ _ _ _ _ _ _ _ _ _ _ _ _ _ _ _ _ _ _ _ _ _ _ _ _ _ ⟨by rw [HU.out]; simp, rfl, (show Below _ _ _ from ⟨rfl, rfl, rfl, Nat.le_refl _, fun _ _ => rfl⟩)⟩
end Go.Proofs.YtabnimgpednhjaaGreatDoor
