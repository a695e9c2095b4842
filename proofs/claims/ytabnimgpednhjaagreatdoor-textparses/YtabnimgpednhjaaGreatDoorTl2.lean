/- The plain ParseModel: what a line of sort 2 does, behind the look at its words. -/
import Derived.Test.YtabnimgpednhjaaGreatDoorKs
import Derived.Test.YtabnimgpednhjaaGreatDoorTl1M
import Derived.BigQuiet
import Derived.BigRegion
import Derived.Deep.CutBlock
import Derived.Deep.DeepCutAuto
namespace Go.Proofs.YtabnimgpednhjaaGreatDoor
open Go.RowKit Go.Deep
set_option maxRecDepth 100000

set_option maxHeartbeats 16000000 in
theorem tl2 {K1 L K2 : Act → World → Prop} {t1 t3 t4 t5 t11 t14 t16 t17 t18 t19 t20 t21 t22 t23 t24 t25 t26 t27 t28 t29 t30 t31 t32 t33 t34 t35 t36 t37 t38 t39 t40 t41 t42 t43 t44 t45 t46 t47 t48 t49 t50 t51 t52 t53 t54 t55 t56 t57 t58 t59 t60 t61 t62 t63 t64 t65 t66 t67 t68 t69 t70 t71 t72 t73 t74 t75 t76 t77 t78 t79 t80 t81 t82 t83 t84 t85 t86 t87 t88 t89 t90 t91 t92 t93 t94 t95 t96 t97 t98 t99 t100 t101 t102 t103 t104 t105 t106 t107 t108 t109 t110 t111 t112 t113 t114 t115 t116 t117 t118 t119 t120 t121 t122 t123 t124 t125 t126 t127 t128 t129 t130 t131 t132 t133 t134 t135 t136 t137 t138 t139 t140 t141 t142 t143 t144 t145 t146 t147 t148 t149 t150 t151 t152 t153 t154 t155 t156 t157 t158 t159 t160 t161 t162 t163 t164 t165 t166 t167 t168 t169 t170 t171 t172 t173 t174 t175 t176 t177 t178 t179 t180 t181 t182 t183 t184 t185 t186 t187 t188 t189 t190 t191 t192 t193 t194 t195 t196 t197 t198 t199 t200 t201 t202 t203 t204 t205 t206 t207 t208 t209 t210 t211 t212 t213 t214 t215 t216 t217 t218 t219 t220 t221 t222 t223 t224 t225 t226 t227 t228 t229 t230 t231 t232 t233 t234 t235 t236 t237 t238 t239 t240 t241 t242 t243 t244 t245 t246 t247 t248 t249 t250 t251 t252 t253 t254 t255 t256 t257 t258 t259 t260 t261 t262 t263 t264 t265 t266 t267 t268 t269 t270 t271 : Value} {s : ByteArray} {w w1 w7 : World} {ls ws r : List ByteArray} {a : ByteArray} {k D sb so wc9 vc : Nat} {vp : Option Addr} {m : Md} {a0 a1 a2 a3 a4 : Option Addr} {c0 c1 c2 c3 c4 : Nat} {code : Code} (hcode : code = (((Tryz.f10.body).bind (findReg 34)).getD .skip))
    (hle : ls.length ≤ 10001) (hk : k + 1 ≤ ls.length) (HB1 : Hid (Below w.heap.size w w1)) (_hsz1 : w.heap.size + 1 ≤ w1.heap.size) (HFW : Hid m.few) (HER : Hid (m.line ws = none → parseR s = (Md0, k + 1, 1)))
    (HGO : Hid (∀ (m' : Md) (w' : World), m.line ws = some m' → HoldsP w' w1.heap.size m' → Below w1.heap.size w1 w' → Pl ls w1 w' (k + 1) m')) (hws : ws.length ≤ 10001) (HWS : Hid (ws = a :: r)) (HD : Hid (D = if sortN a = 0 then 2 else 1))
    (HBW7 : Hid (Below w1.heap.size w1 w7)) (hsz7 : w1.heap.size ≤ w7.heap.size) (HVI : Hid (Ev.IntsAt w7 vp (valsN D ws ws.length))) (hvl : (valsN D ws ws.length).length ≤ ws.length) (HG7 : Hid (w7.heap[w.heap.size]? = some (.cells nilM 26 (0, 0)))) (HST7 : Hid (StrsAt w7 (some ⟨sb, so, none⟩) ws)) (_hc0 : w7.cell? ⟨sb, so, none⟩ = some (.string a)) (h0i : (0 : Int) < (ws.length : Int))
    (HM : Hid (Pm w7 w1.heap.size w1.heap.size (.slice a0 m.ns.length c0) (.slice a1 m.is.length c1) (.slice a2 m.xs.length c2) (.slice a3 m.bs.length c3) (.slice a4 m.hs.length c4) m.ns m.is m.xs m.bs m.hs)) (hs0 : sortN a = 2)
    (HQ : Hid (∀ (v3 v4 v13 v16 v17 v113 v114 v115 v116 v117 v118 v119 v120 v121 v122 v123 v124 v125 v126 v127 v128 v129 v130 v131 v132 v133 v134 v135 v136 v137 v138 v139 v140 v141 v142 v143 v144 v145 v146 v147 v148 v149 v150 v151 v152 v153 v154 v155 v156 v157 v158 v159 v160 v161 v162 v163 v164 v165 v166 v167 v168 v169 v170 v171 v172 v173 v174 v175 v176 v177 v178 v179 v180 v181 v182 v183 v184 v185 v186 v187 v188 v189 v190 v191 v192 v193 v194 v195 v196 v197 v198 v199 v200 v201 v202 v203 v204 v205 v206 v207 v208 v209 v210 v211 v212 v213 v214 v215 v216 v217 v218 v219 v220 v221 v222 v223 v224 v225 v226 v227 v228 v229 v230 v231 v232 v233 v234 v235 v236 v237 v238 v239 v240 v241 v242 v243 v244 v245 v246 v247 v248 v249 v250 v251 v252 v253 v254 : Value) (mm : Md) (w' : World), Hid (Pl ls w1 w' (k + 1) mm) → K1 ⟨#[.string s, t1, .pointer (some ⟨w.heap.size, 0, none⟩), v3, v4, t5, .pointer (some ⟨w1.heap.size, 0, none⟩), .int .i64 (mm.last : Nat), .int .i64 (k : Nat), .slice (some ⟨sb, so, none⟩) ws.length wc9, .int .i64 (kindW ws : Nat), t11, .slice vp (valsN D ws ws.length).length vc, v13, t14, .int .i64 (sortN a : Nat), v16, v17, t18, t19, t20, t21, t22, t23, t24, t25, t26, t27, t28, t29, t30, t31, t32, t33, t34, t35, t36, t37, t38, t39, t40, t41, t42, t43, t44, t45, t46, t47, t48, t49, t50, t51, t52, t53, t54, t55, t56, t57, t58, t59, t60, t61, t62, t63, t64, t65, t66, t67, t68, t69, t70, t71, t72, t73, t74, t75, t76, t77, t78, t79, t80, t81, t82, t83, t84, t85, t86, t87, t88, t89, t90, t91, t92, t93, t94, t95, t96, t97, t98, t99, t100, t101, t102, t103, t104, t105, t106, t107, t108, t109, t110, t111, t112, v113, v114, v115, v116, v117, v118, v119, v120, v121, v122, v123, v124, v125, v126, v127, v128, v129, v130, v131, v132, v133, v134, v135, v136, v137, v138, v139, v140, v141, v142, v143, v144, v145, v146, v147, v148, v149, v150, v151, v152, v153, v154, v155, v156, v157, v158, v159, v160, v161, v162, v163, v164, v165, v166, v167, v168, v169, v170, v171, v172, v173, v174, v175, v176, v177, v178, v179, v180, v181, v182, v183, v184, v185, v186, v187, v188, v189, v190, v191, v192, v193, v194, v195, v196, v197, v198, v199, v200, v201, v202, v203, v204, v205, v206, v207, v208, v209, v210, v211, v212, v213, v214, v215, v216, v217, v218, v219, v220, v221, v222, v223, v224, v225, v226, v227, v228, v229, v230, v231, v232, v233, v234, v235, v236, v237, v238, v239, v240, v241, v242, v243, v244, v245, v246, v247, v248, v249, v250, v251, v252, v253, v254, t255, t256, t257, t258, t259, t260, t261, t262, t263, t264, t265, t266, t267, t268, t269, t270, t271], []⟩ w')) :
    Code.wp Tryz.prog code (Exit.inBlock 1 (Exit.then K1 (Exit.then L (Exit.inBlock 0 (Exit.then K2 (bodyPost Tryz.prog Tryz.f10 (ParseOut s w))))))) ⟨#[.string s, t1, .pointer (some ⟨w.heap.size, 0, none⟩), t3, t4, t5, .pointer (some ⟨w1.heap.size, 0, none⟩), .int .i64 (m.last : Nat), .int .i64 (k : Nat), .slice (some ⟨sb, so, none⟩) ws.length wc9, .int .i64 (kindW ws : Nat), t11, .slice vp (valsN D ws ws.length).length vc, .bool (fineN D ws ws.length), t14, .int .i64 (sortN a : Nat), t16, t17, t18, t19, t20, t21, t22, t23, t24, t25, t26, t27, t28, t29, t30, t31, t32, t33, t34, t35, t36, t37, t38, t39, t40, t41, t42, t43, t44, t45, t46, t47, t48, t49, t50, t51, t52, t53, t54, t55, t56, t57, t58, t59, t60, t61, t62, t63, t64, t65, t66, t67, t68, t69, t70, t71, t72, t73, t74, t75, t76, t77, t78, t79, t80, t81, t82, t83, t84, t85, t86, t87, t88, t89, t90, t91, t92, t93, t94, t95, t96, t97, t98, t99, t100, t101, t102, t103, t104, t105, t106, t107, t108, t109, t110, t111, t112, t113, t114, t115, t116, t117, t118, t119, t120, t121, t122, t123, t124, t125, t126, t127, t128, t129, t130, t131, t132, t133, t134, t135, t136, t137, t138, t139, t140, t141, t142, t143, t144, t145, t146, t147, t148, t149, t150, t151, t152, t153, t154, t155, t156, t157, t158, t159, t160, t161, t162, t163, t164, t165, t166, t167, t168, t169, t170, t171, t172, t173, t174, t175, t176, t177, t178, t179, t180, t181, t182, t183, t184, t185, t186, t187, t188, t189, t190, t191, t192, t193, t194, t195, t196, t197, t198, t199, t200, t201, t202, t203, t204, t205, t206, t207, t208, t209, t210, t211, t212, t213, t214, t215, t216, t217, t218, t219, t220, t221, t222, t223, t224, t225, t226, t227, t228, t229, t230, t231, t232, t233, t234, t235, t236, t237, t238, t239, t240, t241, t242, t243, t244, t245, t246, t247, t248, t249, t250, t251, t252, t253, t254, t255, t256, t257, t258, t259, t260, t261, t262, t263, t264, t265, t266, t267, t268, t269, t270, t271], []⟩ w7 := by
  subst hcode
  conv => arg 2; whnf
  dsimp only
  obtain rfl : D = 1 := HD.out.trans (by rw [hs0]; rfl)
  have HY : Hid (∀ V : List Int, V = valsN 1 ws ws.length → fineN 1 ws ws.length = true → V.length = 2 → ¬ 2 < m.last → m.line ws = some { m with xs := m.xs ++ [(V.getD 0 0, V.getD 1 0)], last := 2 }) := by
    rintro V rfl h1 h2 h3
    have h := HWS.out
    subst h
    exact line_pair2 hs0 h1 h2 h3
  have HN : Hid (¬ (fineN 1 ws ws.length = true ∧ (valsN 1 ws ws.length).length = 2 ∧ ¬ 2 < m.last) → parseR s = (Md0, k + 1, 1)) := fun hno => HER.out (by
    have h := HWS.out
    subst h
    exact line_nope (by rw [hs0]; decide) (by rw [hs0]; exact hno))
  rw [hs0] at HQ ⊢
  have d0 : w7.cell? ⟨w.heap.size, 0, none⟩ = some (.slice none 0 0) := by rw [Lib.cell_of_heap HG7.out]; rfl
  have z0 : w7.frozen? ⟨w.heap.size, 0, none⟩ = false := Lib.frozen_of_heap HG7.out 0
  have d1 : w7.cell? ⟨w.heap.size, 1, none⟩ = some (.slice none 0 0) := by rw [Lib.cell_of_heap HG7.out]; rfl
  have z1 : w7.frozen? ⟨w.heap.size, 1, none⟩ = false := Lib.frozen_of_heap HG7.out 1
  have d2 : w7.cell? ⟨w.heap.size, 2, none⟩ = some (.slice none 0 0) := by rw [Lib.cell_of_heap HG7.out]; rfl
  have z2 : w7.frozen? ⟨w.heap.size, 2, none⟩ = false := Lib.frozen_of_heap HG7.out 2
  have d3 : w7.cell? ⟨w.heap.size, 3, none⟩ = some (.slice none 0 0) := by rw [Lib.cell_of_heap HG7.out]; rfl
  have z3 : w7.frozen? ⟨w.heap.size, 3, none⟩ = false := Lib.frozen_of_heap HG7.out 3
  have d4 : w7.cell? ⟨w.heap.size, 4, none⟩ = some (.slice none 0 0) := by rw [Lib.cell_of_heap HG7.out]; rfl
  have z4 : w7.frozen? ⟨w.heap.size, 4, none⟩ = false := Lib.frozen_of_heap HG7.out 4
  have HBR := hide (belowAl HB1.out (HBW7.out))
  have HVY := hide (fun (h1 : fineN 1 ws ws.length = true) (h2 : (valsN 1 ws ws.length).length = 2) (h3 : ¬ 2 < m.last) => HY.out _ rfl h1 h2 h3)
  clear HER HY HG7 HST7 HD hs0
  generalize valsN 1 ws ws.length = V at *
  generalize fineN 1 ws ws.length = F at *
  cases F with
  | false =>
    have HP := hide (HN.out (fun h => by cases h.1))
    clear HN HVY HVI HM
    go_wp2_with fail
    refine bodyPost_ret (v := .tuple #[.agg nilM, .int .i64 ((k : Int) + 1), .int .i64 1]) (by simp [results, Tryz.results10, go_sem, d0, d1, d2, d3, d4]) rfl ⟨_, by rw [HP.out]; rfl, ?_, (((((HBR.out.setCell (by simp) _).setCell (by simp) _).setCell (by simp) _).setCell (by simp) _).setCell (by simp) _)⟩
    rw [HP.out]
    exact noModel _
  | true =>
    by_cases hl : V.length = 2
    · by_cases hlo : 2 < m.last
      · have HP := hide (HN.out (fun h => h.2.2 hlo))
        have hlo2 : (2 : Int) < (m.last : Int) := by omega
        have hl2 : ((V.length : Int) != 2) = false := by rw [hl]; rfl
        clear HN HVY HVI HM hl hlo
        go_wp2_with fail
        refine bodyPost_ret (v := .tuple #[.agg nilM, .int .i64 ((k : Int) + 1), .int .i64 1]) (by simp [results, Tryz.results10, go_sem, d0, d1, d2, d3, d4]) rfl ⟨_, by rw [HP.out]; rfl, ?_, (((((HBR.out.setCell (by simp) _).setCell (by simp) _).setCell (by simp) _).setCell (by simp) _).setCell (by simp) _)⟩
        rw [HP.out]
        exact noModel _
      · have HLN := hide (HVY.out rfl hl hlo)
        have hlo2 : ¬ (2 : Int) < (m.last : Int) := by omega
        clear HN HVY d0 d1 d2 d3 d4 z0 z1 z2 z3 z4
        obtain ⟨x, y, rfl⟩ : ∃ x y, V = [x, y] := by
          match V, hl with
          | [x, y], _ => exact ⟨x, y, rfl⟩
        obtain ⟨vb, vo, rfl, hvc⟩ := HVI.out (by simp)
        have n0 : w7.cell? ⟨vb, vo, none⟩ = some (.int .i64 x) := hvc 0 (by simp)
        have n1 : w7.cell? ⟨vb, vo + 1, none⟩ = some (.int .i64 y) := hvc 1 (by simp)
        have hF : Fg 58 2 w7 w1.heap.size w1.heap.size 2 #[.slice a0 m.ns.length c0, .slice a1 m.is.length c1, .slice a2 m.xs.length c2, .slice a3 m.bs.length c3, .slice a4 m.hs.length c4] 26 (.slice a2 m.xs.length c2) m.xs.length (flatP m.xs) := ⟨HM.out.c, rfl, HM.out.r2, Nat.le_refl _⟩
        have HHH : Hid (HoldsP w7 w1.heap.size m) := ⟨_, _, _, _, _, HM.out⟩
        have hll : m.xs.length ≤ 100000 := HFW.out.2.2.1
        clear hvc HVI hF HM hl
        go_upto_block 7 with fail
        refine sw2 (by simp only [Tryz.f10, findBlock, Option.bind, Option.getD, Nat.reduceEqDiff, reduceIte]) hsz7 n0 n1 HHH hll (hide ?_)
        intros
        rename_i wx hx1 hx2
        have HPL2 := hide (HGO.out _ _ HLN.out hx1 (HBW7.out.trans hx2))
        clear hx1 hx2 HGO HLN HHH hll
        dsimp only
        exact HQ.out _ _ _ _ _ _ _ _ _ _ _ _ _ _ _ _ _ _ _ _ _ _ _ _ _ _ _ _ _ _ _ _ _ _ _ _ _ _ _ _ _ _ _ _ _ _ _ _ _ _ _ _ _ _ _ _ _ _ _ _ _ _ _ _ _ _ _ _ _ _ _ _ _ _ _ _ _ _ _ _ _ _ _ _ _ _ _ _ _ _ _ _ _ _ _ _ _ _ _ _ _ _ _ _ _ _ _ _ _ _ _ _ _ _ _ _ _ _ _ _ _ _ _ _ _ _ _ _ _ _ _ _ _ _ _ _ _ _ _ _ _ _ _ _ _ _ _ _ _ HPL2
    · have HP := hide (HN.out (fun h => hl h.2.1))
      have hl2 : ((V.length : Int) != 2) = true := by simp; omega
      have hl3 : ¬ (V.length : Int) = 2 := by omega
      clear HN HVY HVI HM hl
      go_wp2_with fail
      refine bodyPost_ret (v := .tuple #[.agg nilM, .int .i64 ((k : Int) + 1), .int .i64 1]) (by simp [results, Tryz.results10, go_sem, d0, d1, d2, d3, d4]) rfl ⟨_, by rw [HP.out]; rfl, ?_, (((((HBR.out.setCell (by simp) _).setCell (by simp) _).setCell (by simp) _).setCell (by simp) _).setCell (by simp) _)⟩
      rw [HP.out]
      exact noModel _
end Go.Proofs.YtabnimgpednhjaaGreatDoor
