/- The plain ParseModel's switch: what a line adds to the model. -/
import Derived.Test.YtabnimgpednhjaaGreatDoorKqM
namespace Go.Proofs.YtabnimgpednhjaaGreatDoor
open Go.RowKit Go.Deep
set_option maxRecDepth 100000

set_option maxHeartbeats 8000000 in
theorem sw1 {K1 L K2 : Act → World → Prop} {P : Ending → World → Prop} {t0 t1 t2 t3 t4 t5 t7 t8 t9 t10 t11 t13 t14 t16 t17 t18 t19 t20 t21 t22 t23 t24 t25 t26 t27 t28 t29 t30 t31 t32 t33 t34 t35 t36 t37 t38 t39 t40 t41 t42 t43 t44 t45 t46 t47 t48 t49 t50 t51 t52 t53 t54 t55 t56 t57 t58 t59 t60 t61 t62 t63 t64 t65 t66 t67 t68 t69 t70 t71 t72 t73 t74 t75 t76 t77 t78 t79 t80 t81 t82 t83 t84 t85 t86 t87 t88 t89 t90 t91 t92 t93 t94 t95 t96 t97 t98 t99 t100 t101 t102 t103 t104 t105 t106 t107 t108 t109 t110 t111 t112 t113 t114 t115 t116 t117 t118 t119 t120 t121 t122 t123 t124 t125 t126 t127 t128 t129 t130 t131 t132 t133 t134 t135 t136 t137 t138 t139 t140 t141 t142 t143 t144 t145 t146 t147 t148 t149 t150 t151 t152 t153 t154 t155 t156 t157 t158 t159 t161 t162 t163 t164 t165 t166 t167 t168 t169 t170 t171 t172 t173 t174 t175 t176 t177 t178 t179 t180 t181 t182 t183 t184 t185 t186 t187 t188 t189 t190 t191 t192 t193 t194 t195 t196 t197 t198 t199 t200 t201 t202 t203 t204 t205 t206 t207 t208 t209 t210 t211 t212 t213 t214 t215 t216 t217 t218 t219 t220 t221 t222 t223 t224 t225 t226 t227 t228 t229 t230 t231 t232 t233 t234 t235 t236 t237 t238 t239 t240 t241 t242 t243 t244 t245 t246 t247 t248 t249 t250 t251 t252 t253 t254 t255 t256 t257 t258 t259 t260 t261 t262 t263 t264 t265 t266 t267 t268 t269 t270 t271 : Value} {R vb vo vc : Nat} {x y : Int} {m : Md} {w : World} {code : Code} (hcode : code = (((Tryz.f10.body).bind (findBlock 7)).getD .skip)) (hsz : R ≤ w.heap.size) (n0 : w.cell? ⟨vb, vo, none⟩ = some (.int .i64 x)) (n1 : w.cell? ⟨vb, vo + 1, none⟩ = some (.int .i64 y)) (HM : Hid (HoldsP w R m)) (hll : m.is.length ≤ 100000)
    (HQ : Hid (∀ (u17 u161 u162 u163 u164 u165 u166 u167 u168 u169 u170 u171 u172 u173 u174 u175 u176 u177 u178 u179 u180 u181 u182 u183 u184 u185 u186 u187 u188 u189 u190 u191 u192 u193 u194 u195 u196 u197 u198 u199 u200 u201 u202 u203 u204 u205 u206 u207 u208 u209 u210 u211 u212 u213 u214 u215 u216 u217 u218 u219 u220 u221 u222 u223 u224 u225 u226 u227 u228 u229 u230 u231 u232 u233 u234 u235 u236 u237 u238 u239 u240 u241 u242 u243 u244 u245 u246 u247 u248 u249 u250 u251 u252 u253 u254 : Value) (w' : World), HoldsP w' R { m with is := m.is ++ [(x, y)], last := 1 } → Below R w w' → K1 ⟨#[t0, t1, t2, t3, t4, t5, .pointer (some ⟨R, 0, none⟩), t7, t8, t9, t10, t11, .slice (some ⟨vb, vo, none⟩) 2 vc, t13, t14, .int .i64 1, t16, u17, t18, t19, t20, t21, t22, t23, t24, t25, t26, t27, t28, t29, t30, t31, t32, t33, t34, t35, t36, t37, t38, t39, t40, t41, t42, t43, t44, t45, t46, t47, t48, t49, t50, t51, t52, t53, t54, t55, t56, t57, t58, t59, t60, t61, t62, t63, t64, t65, t66, t67, t68, t69, t70, t71, t72, t73, t74, t75, t76, t77, t78, t79, t80, t81, t82, t83, t84, t85, t86, t87, t88, t89, t90, t91, t92, t93, t94, t95, t96, t97, t98, t99, t100, t101, t102, t103, t104, t105, t106, t107, t108, t109, t110, t111, t112, t113, t114, t115, t116, t117, t118, t119, t120, t121, t122, t123, t124, t125, t126, t127, t128, t129, t130, t131, t132, t133, t134, t135, t136, t137, t138, t139, t140, t141, t142, t143, t144, t145, t146, t147, t148, t149, t150, t151, t152, t153, t154, t155, t156, t157, t158, t159, .int .i64 1, u161, u162, u163, u164, u165, u166, u167, u168, u169, u170, u171, u172, u173, u174, u175, u176, u177, u178, u179, u180, u181, u182, u183, u184, u185, u186, u187, u188, u189, u190, u191, u192, u193, u194, u195, u196, u197, u198, u199, u200, u201, u202, u203, u204, u205, u206, u207, u208, u209, u210, u211, u212, u213, u214, u215, u216, u217, u218, u219, u220, u221, u222, u223, u224, u225, u226, u227, u228, u229, u230, u231, u232, u233, u234, u235, u236, u237, u238, u239, u240, u241, u242, u243, u244, u245, u246, u247, u248, u249, u250, u251, u252, u253, u254, t255, t256, t257, t258, t259, t260, t261, t262, t263, t264, t265, t266, t267, t268, t269, t270, t271], []⟩ w')) :
    Code.wp Tryz.prog code (Exit.inBlock 1 (Exit.then K1 (Exit.then L (Exit.inBlock 0 (Exit.then K2 (bodyPost Tryz.prog Tryz.f10 P)))))) ⟨#[t0, t1, t2, t3, t4, t5, .pointer (some ⟨R, 0, none⟩), t7, t8, t9, t10, t11, .slice (some ⟨vb, vo, none⟩) 2 vc, t13, t14, .int .i64 1, t16, t17, t18, t19, t20, t21, t22, t23, t24, t25, t26, t27, t28, t29, t30, t31, t32, t33, t34, t35, t36, t37, t38, t39, t40, t41, t42, t43, t44, t45, t46, t47, t48, t49, t50, t51, t52, t53, t54, t55, t56, t57, t58, t59, t60, t61, t62, t63, t64, t65, t66, t67, t68, t69, t70, t71, t72, t73, t74, t75, t76, t77, t78, t79, t80, t81, t82, t83, t84, t85, t86, t87, t88, t89, t90, t91, t92, t93, t94, t95, t96, t97, t98, t99, t100, t101, t102, t103, t104, t105, t106, t107, t108, t109, t110, t111, t112, t113, t114, t115, t116, t117, t118, t119, t120, t121, t122, t123, t124, t125, t126, t127, t128, t129, t130, t131, t132, t133, t134, t135, t136, t137, t138, t139, t140, t141, t142, t143, t144, t145, t146, t147, t148, t149, t150, t151, t152, t153, t154, t155, t156, t157, t158, t159, .int .i64 1, t161, t162, t163, t164, t165, t166, t167, t168, t169, t170, t171, t172, t173, t174, t175, t176, t177, t178, t179, t180, t181, t182, t183, t184, t185, t186, t187, t188, t189, t190, t191, t192, t193, t194, t195, t196, t197, t198, t199, t200, t201, t202, t203, t204, t205, t206, t207, t208, t209, t210, t211, t212, t213, t214, t215, t216, t217, t218, t219, t220, t221, t222, t223, t224, t225, t226, t227, t228, t229, t230, t231, t232, t233, t234, t235, t236, t237, t238, t239, t240, t241, t242, t243, t244, t245, t246, t247, t248, t249, t250, t251, t252, t253, t254, t255, t256, t257, t258, t259, t260, t261, t262, t263, t264, t265, t266, t267, t268, t269, t270, t271], []⟩ w := by
  subst hcode
  obtain ⟨i0, hi, hz0, hz1, hz2⟩ := info_parts info58
  have HI := hide (And.intro hi (And.intro hz0 (And.intro hz1 hz2)))
  clear hi hz0 hz1 hz2
  obtain ⟨v0, v1, v2, v3, v4, hM⟩ := HM.out
  have HP := hide hM
  obtain ⟨a0, a1, a2, a3, a4, c0, c1, c2, c3, c4, rfl, rfl, rfl, rfl, rfl, -⟩ := hM.parts
  have hF : Fg 58 2 w R R 1 #[.slice a0 m.ns.length c0, .slice a1 m.is.length c1, .slice a2 m.xs.length c2, .slice a3 m.bs.length c3, .slice a4 m.hs.length c4] 26 (.slice a1 m.is.length c1) m.is.length (flatP m.is) := ⟨HP.out.c, rfl, HP.out.r1, Nat.le_refl _⟩
  have m1 := hF.cell
  have f1 : w.frozen? ⟨R, 1, none⟩ = false := Lib.frozen_of_heap hF.c 1
  have hR1 := World.block_lt_of_cell? _ _ m1
  simp only at hR1
  have hR2 := World.new_ne w ⟨R, 1, none⟩ m1
  simp only at hR2
  have hFd : Fg 58 2 w.drew R R 1 #[.slice a0 m.ns.length c0, .slice a1 m.is.length c1, .slice a2 m.xs.length c2, .slice a3 m.bs.length c3, .slice a4 m.hs.length c4] 26 (.slice a1 m.is.length c1) m.is.length (flatP m.is) := ⟨hF.c, hF.at', hF.row, hF.hR⟩
  have hFa := hFd.later (bal (Below.refl _ _) (.cells #[.int .i64 x, .int .i64 y] 58))
  have hne := ownBlock_neG hFa.row hFa.c (by decide)
  have HFX := hide hF
  have HFD := hide hFd
  have HFA := hide hFa
  have HNE2 := hide hne
  have HLL := hide hll
  clear hFd hFa hne hF hll hM HM
  simp only [Tryz.f10, findBlock, Option.bind, Option.getD, Nat.reduceEqDiff, reduceIte]
  go_wp2_with fail
  go_region_law (refine step_append_lies _ rfl (.tmp 210) (.tmp 218) 23 rfl R 58 i0 (.agg #[.int .i64 0, .int .i64 0]) 2 16 Tryz.underlying23 HI.out.1 HI.out.2.1 HI.out.2.2.1 HI.out.2.2.2 rfl (by decide) _ m.is.length (flatP m.is) (by simp [Act.eval]) (HFD.out.row.alloc _) ⟨w.heap.size, 0, none⟩ 1 1 [.int .i64 x, .int .i64 y] (by simp [Act.eval]) rfl (two_newsI x y w.drew) (two_cellI x y) (by decide) (by have := HLL.out; unfold maxLen; omega) (by have := HLL.out; omega) (by simp; omega) (w.heap.size + 1) (by simp) ?_
                 intro g cap w2 hown2 hg2 hat2 hlt2
                 have t2' : w2.heap[R]? = some (.cells #[.slice a0 m.ns.length c0, .slice a1 m.is.length c1, .slice a2 m.xs.length c2, .slice a3 m.bs.length c3, .slice a4 m.hs.length c4] 26 (0, 0)) := (hg2.block _ (Array.getElem?_eq_some_iff.1 HFA.out.c).1 (fun e => HNE2.out e.symm)).trans HFA.out.c
                 have g2 : w2.cell? ⟨R, 1, none⟩ = some (.slice a1 m.is.length c1) := by rw [Lib.cell_of_heap t2']; exact HFA.out.at'
                 have f2 : w2.frozen? ⟨R, 1, none⟩ = false := Lib.frozen_of_heap t2' 1)
  all_goals
    have hpt := HFX.out.put (v' := .slice (some ⟨g, 0, none⟩) (m.is.length + 1) cap) (n' := (m.is ++ [(x, y)]).length) (vs' := flatP (m.is ++ [(x, y)])) hsz (Below.refl _ w) (by decide) (bal (Below.refl _ w) (.cells #[.int .i64 x, .int .i64 y] 58)).drew hg2 (by rw [flatP_app]; simpa using hown2)
    have hat : (Value.slice (some ⟨g, 0, none⟩) (m.is.length + 1) cap).ownBlock = (Value.slice a1 m.is.length c1).ownBlock ∨ ∃ g', (Value.slice (some ⟨g, 0, none⟩) (m.is.length + 1) cap).ownBlock = some g' ∧ w.heap.size ≤ g' := by
      rcases hat2 with e | e
      · exact .inl e.symm
      · exact .inr ⟨g, rfl, by omega⟩
    have HH2 : Hid (HoldsP _ R { m with is := m.is ++ [(x, y)], last := 1 }) := ⟨_, _, _, _, _, HP.out.put1 hpt.1 hpt.2.1 hpt.2.2 hat⟩
    have HB2 := hide (hpt.2.2.below (Nat.le_refl _) hsz (fun i hi => (HP.out.r1.lt i hi).1))
    clear hpt hat hat2 hown2 hg2
    go_wp2_with fail
    exact HQ.out _ _ _ _ _ _ _ _ _ _ _ _ _ _ _ _ _ _ _ _ _ _ _ _ _ _ _ _ _ _ _ _ _ _ _ _ _ _ _ _ _ _ _ _ _ _ _ _ _ _ _ _ _ _ _ _ _ _ _ _ _ _ _ _ _ _ _ _ _ _ _ _ _ _ _ _ _ _ _ _ _ _ _ _ _ _ _ _ _ _ _ _ _ _ _ _ HH2.out HB2.out

set_option maxHeartbeats 8000000 in
theorem sw2 {K1 L K2 : Act → World → Prop} {P : Ending → World → Prop} {t0 t1 t2 t3 t4 t5 t7 t8 t9 t10 t11 t13 t14 t16 t17 t18 t19 t20 t21 t22 t23 t24 t25 t26 t27 t28 t29 t30 t31 t32 t33 t34 t35 t36 t37 t38 t39 t40 t41 t42 t43 t44 t45 t46 t47 t48 t49 t50 t51 t52 t53 t54 t55 t56 t57 t58 t59 t60 t61 t62 t63 t64 t65 t66 t67 t68 t69 t70 t71 t72 t73 t74 t75 t76 t77 t78 t79 t80 t81 t82 t83 t84 t85 t86 t87 t88 t89 t90 t91 t92 t93 t94 t95 t96 t97 t98 t99 t100 t101 t102 t103 t104 t105 t106 t107 t108 t109 t110 t111 t112 t113 t114 t115 t116 t117 t118 t119 t120 t121 t122 t123 t124 t125 t126 t127 t128 t129 t130 t131 t132 t133 t134 t135 t136 t137 t138 t139 t140 t141 t142 t143 t144 t145 t146 t147 t148 t149 t150 t151 t152 t153 t154 t155 t156 t157 t158 t159 t161 t162 t163 t164 t165 t166 t167 t168 t169 t170 t171 t172 t173 t174 t175 t176 t177 t178 t179 t180 t181 t182 t183 t184 t185 t186 t187 t188 t189 t190 t191 t192 t193 t194 t195 t196 t197 t198 t199 t200 t201 t202 t203 t204 t205 t206 t207 t208 t209 t210 t211 t212 t213 t214 t215 t216 t217 t218 t219 t220 t221 t222 t223 t224 t225 t226 t227 t228 t229 t230 t231 t232 t233 t234 t235 t236 t237 t238 t239 t240 t241 t242 t243 t244 t245 t246 t247 t248 t249 t250 t251 t252 t253 t254 t255 t256 t257 t258 t259 t260 t261 t262 t263 t264 t265 t266 t267 t268 t269 t270 t271 : Value} {R vb vo vc : Nat} {x y : Int} {m : Md} {w : World} {code : Code} (hcode : code = (((Tryz.f10.body).bind (findBlock 7)).getD .skip)) (hsz : R ≤ w.heap.size) (n0 : w.cell? ⟨vb, vo, none⟩ = some (.int .i64 x)) (n1 : w.cell? ⟨vb, vo + 1, none⟩ = some (.int .i64 y)) (HM : Hid (HoldsP w R m)) (hll : m.xs.length ≤ 100000)
    (HQ : Hid (∀ (u17 u161 u162 u163 u164 u165 u166 u167 u168 u169 u170 u171 u172 u173 u174 u175 u176 u177 u178 u179 u180 u181 u182 u183 u184 u185 u186 u187 u188 u189 u190 u191 u192 u193 u194 u195 u196 u197 u198 u199 u200 u201 u202 u203 u204 u205 u206 u207 u208 u209 u210 u211 u212 u213 u214 u215 u216 u217 u218 u219 u220 u221 u222 u223 u224 u225 u226 u227 u228 u229 u230 u231 u232 u233 u234 u235 u236 u237 u238 u239 u240 u241 u242 u243 u244 u245 u246 u247 u248 u249 u250 u251 u252 u253 u254 : Value) (w' : World), HoldsP w' R { m with xs := m.xs ++ [(x, y)], last := 2 } → Below R w w' → K1 ⟨#[t0, t1, t2, t3, t4, t5, .pointer (some ⟨R, 0, none⟩), t7, t8, t9, t10, t11, .slice (some ⟨vb, vo, none⟩) 2 vc, t13, t14, .int .i64 2, t16, u17, t18, t19, t20, t21, t22, t23, t24, t25, t26, t27, t28, t29, t30, t31, t32, t33, t34, t35, t36, t37, t38, t39, t40, t41, t42, t43, t44, t45, t46, t47, t48, t49, t50, t51, t52, t53, t54, t55, t56, t57, t58, t59, t60, t61, t62, t63, t64, t65, t66, t67, t68, t69, t70, t71, t72, t73, t74, t75, t76, t77, t78, t79, t80, t81, t82, t83, t84, t85, t86, t87, t88, t89, t90, t91, t92, t93, t94, t95, t96, t97, t98, t99, t100, t101, t102, t103, t104, t105, t106, t107, t108, t109, t110, t111, t112, t113, t114, t115, t116, t117, t118, t119, t120, t121, t122, t123, t124, t125, t126, t127, t128, t129, t130, t131, t132, t133, t134, t135, t136, t137, t138, t139, t140, t141, t142, t143, t144, t145, t146, t147, t148, t149, t150, t151, t152, t153, t154, t155, t156, t157, t158, t159, .int .i64 2, u161, u162, u163, u164, u165, u166, u167, u168, u169, u170, u171, u172, u173, u174, u175, u176, u177, u178, u179, u180, u181, u182, u183, u184, u185, u186, u187, u188, u189, u190, u191, u192, u193, u194, u195, u196, u197, u198, u199, u200, u201, u202, u203, u204, u205, u206, u207, u208, u209, u210, u211, u212, u213, u214, u215, u216, u217, u218, u219, u220, u221, u222, u223, u224, u225, u226, u227, u228, u229, u230, u231, u232, u233, u234, u235, u236, u237, u238, u239, u240, u241, u242, u243, u244, u245, u246, u247, u248, u249, u250, u251, u252, u253, u254, t255, t256, t257, t258, t259, t260, t261, t262, t263, t264, t265, t266, t267, t268, t269, t270, t271], []⟩ w')) :
    Code.wp Tryz.prog code (Exit.inBlock 1 (Exit.then K1 (Exit.then L (Exit.inBlock 0 (Exit.then K2 (bodyPost Tryz.prog Tryz.f10 P)))))) ⟨#[t0, t1, t2, t3, t4, t5, .pointer (some ⟨R, 0, none⟩), t7, t8, t9, t10, t11, .slice (some ⟨vb, vo, none⟩) 2 vc, t13, t14, .int .i64 2, t16, t17, t18, t19, t20, t21, t22, t23, t24, t25, t26, t27, t28, t29, t30, t31, t32, t33, t34, t35, t36, t37, t38, t39, t40, t41, t42, t43, t44, t45, t46, t47, t48, t49, t50, t51, t52, t53, t54, t55, t56, t57, t58, t59, t60, t61, t62, t63, t64, t65, t66, t67, t68, t69, t70, t71, t72, t73, t74, t75, t76, t77, t78, t79, t80, t81, t82, t83, t84, t85, t86, t87, t88, t89, t90, t91, t92, t93, t94, t95, t96, t97, t98, t99, t100, t101, t102, t103, t104, t105, t106, t107, t108, t109, t110, t111, t112, t113, t114, t115, t116, t117, t118, t119, t120, t121, t122, t123, t124, t125, t126, t127, t128, t129, t130, t131, t132, t133, t134, t135, t136, t137, t138, t139, t140, t141, t142, t143, t144, t145, t146, t147, t148, t149, t150, t151, t152, t153, t154, t155, t156, t157, t158, t159, .int .i64 2, t161, t162, t163, t164, t165, t166, t167, t168, t169, t170, t171, t172, t173, t174, t175, t176, t177, t178, t179, t180, t181, t182, t183, t184, t185, t186, t187, t188, t189, t190, t191, t192, t193, t194, t195, t196, t197, t198, t199, t200, t201, t202, t203, t204, t205, t206, t207, t208, t209, t210, t211, t212, t213, t214, t215, t216, t217, t218, t219, t220, t221, t222, t223, t224, t225, t226, t227, t228, t229, t230, t231, t232, t233, t234, t235, t236, t237, t238, t239, t240, t241, t242, t243, t244, t245, t246, t247, t248, t249, t250, t251, t252, t253, t254, t255, t256, t257, t258, t259, t260, t261, t262, t263, t264, t265, t266, t267, t268, t269, t270, t271], []⟩ w := by
  subst hcode
  obtain ⟨i0, hi, hz0, hz1, hz2⟩ := info_parts info58
  have HI := hide (And.intro hi (And.intro hz0 (And.intro hz1 hz2)))
  clear hi hz0 hz1 hz2
  obtain ⟨v0, v1, v2, v3, v4, hM⟩ := HM.out
  have HP := hide hM
  obtain ⟨a0, a1, a2, a3, a4, c0, c1, c2, c3, c4, rfl, rfl, rfl, rfl, rfl, -⟩ := hM.parts
  have hF : Fg 58 2 w R R 2 #[.slice a0 m.ns.length c0, .slice a1 m.is.length c1, .slice a2 m.xs.length c2, .slice a3 m.bs.length c3, .slice a4 m.hs.length c4] 26 (.slice a2 m.xs.length c2) m.xs.length (flatP m.xs) := ⟨HP.out.c, rfl, HP.out.r2, Nat.le_refl _⟩
  have m1 := hF.cell
  have f1 : w.frozen? ⟨R, 2, none⟩ = false := Lib.frozen_of_heap hF.c 2
  have hR1 := World.block_lt_of_cell? _ _ m1
  simp only at hR1
  have hR2 := World.new_ne w ⟨R, 2, none⟩ m1
  simp only at hR2
  have hFd : Fg 58 2 w.drew R R 2 #[.slice a0 m.ns.length c0, .slice a1 m.is.length c1, .slice a2 m.xs.length c2, .slice a3 m.bs.length c3, .slice a4 m.hs.length c4] 26 (.slice a2 m.xs.length c2) m.xs.length (flatP m.xs) := ⟨hF.c, hF.at', hF.row, hF.hR⟩
  have hFa := hFd.later (bal (Below.refl _ _) (.cells #[.int .i64 x, .int .i64 y] 58))
  have hne := ownBlock_neG hFa.row hFa.c (by decide)
  have HFX := hide hF
  have HFD := hide hFd
  have HFA := hide hFa
  have HNE2 := hide hne
  have HLL := hide hll
  clear hFd hFa hne hF hll hM HM
  simp only [Tryz.f10, findBlock, Option.bind, Option.getD, Nat.reduceEqDiff, reduceIte]
  go_wp2_with fail
  go_region_law (refine step_append_lies _ rfl (.tmp 224) (.tmp 232) 23 rfl R 58 i0 (.agg #[.int .i64 0, .int .i64 0]) 2 16 Tryz.underlying23 HI.out.1 HI.out.2.1 HI.out.2.2.1 HI.out.2.2.2 rfl (by decide) _ m.xs.length (flatP m.xs) (by simp [Act.eval]) (HFD.out.row.alloc _) ⟨w.heap.size, 0, none⟩ 1 1 [.int .i64 x, .int .i64 y] (by simp [Act.eval]) rfl (two_newsI x y w.drew) (two_cellI x y) (by decide) (by have := HLL.out; unfold maxLen; omega) (by have := HLL.out; omega) (by simp; omega) (w.heap.size + 1) (by simp) ?_
                 intro g cap w2 hown2 hg2 hat2 hlt2
                 have t2' : w2.heap[R]? = some (.cells #[.slice a0 m.ns.length c0, .slice a1 m.is.length c1, .slice a2 m.xs.length c2, .slice a3 m.bs.length c3, .slice a4 m.hs.length c4] 26 (0, 0)) := (hg2.block _ (Array.getElem?_eq_some_iff.1 HFA.out.c).1 (fun e => HNE2.out e.symm)).trans HFA.out.c
                 have g2 : w2.cell? ⟨R, 2, none⟩ = some (.slice a2 m.xs.length c2) := by rw [Lib.cell_of_heap t2']; exact HFA.out.at'
                 have f2 : w2.frozen? ⟨R, 2, none⟩ = false := Lib.frozen_of_heap t2' 2)
  all_goals
    have hpt := HFX.out.put (v' := .slice (some ⟨g, 0, none⟩) (m.xs.length + 1) cap) (n' := (m.xs ++ [(x, y)]).length) (vs' := flatP (m.xs ++ [(x, y)])) hsz (Below.refl _ w) (by decide) (bal (Below.refl _ w) (.cells #[.int .i64 x, .int .i64 y] 58)).drew hg2 (by rw [flatP_app]; simpa using hown2)
    have hat : (Value.slice (some ⟨g, 0, none⟩) (m.xs.length + 1) cap).ownBlock = (Value.slice a2 m.xs.length c2).ownBlock ∨ ∃ g', (Value.slice (some ⟨g, 0, none⟩) (m.xs.length + 1) cap).ownBlock = some g' ∧ w.heap.size ≤ g' := by
      rcases hat2 with e | e
      · exact .inl e.symm
      · exact .inr ⟨g, rfl, by omega⟩
    have HH2 : Hid (HoldsP _ R { m with xs := m.xs ++ [(x, y)], last := 2 }) := ⟨_, _, _, _, _, HP.out.put2 hpt.1 hpt.2.1 hpt.2.2 hat⟩
    have HB2 := hide (hpt.2.2.below (Nat.le_refl _) hsz (fun i hi => (HP.out.r2.lt i hi).1))
    clear hpt hat hat2 hown2 hg2
    go_wp2_with fail
    exact HQ.out _ _ _ _ _ _ _ _ _ _ _ _ _ _ _ _ _ _ _ _ _ _ _ _ _ _ _ _ _ _ _ _ _ _ _ _ _ _ _ _ _ _ _ _ _ _ _ _ _ _ _ _ _ _ _ _ _ _ _ _ _ _ _ _ _ _ _ _ _ _ _ _ _ _ _ _ _ _ _ _ _ _ _ _ _ _ _ _ _ _ _ _ _ _ _ _ HH2.out HB2.out
end Go.Proofs.YtabnimgpednhjaaGreatDoor
