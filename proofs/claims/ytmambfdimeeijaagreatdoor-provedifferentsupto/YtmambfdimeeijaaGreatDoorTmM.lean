/- The plain texts of steps that differ: nothing is bad but at the last step. -/
import Derived.Test.YtmambfdimeeijaaGreatDoorShM
import Derived.Deep.CutRange
import Derived.Deep.CutBlock
import Derived.Deep.RegionHeld3
namespace Go.Proofs.YtmambfdimeeijaaGreatDoor
open Go.RowKit Go.Maps Go.WideMaps
set_option maxRecDepth 100000
theorem addS_none {w1 wr : World} {M : Nat} {V : Int} {L : List (List Int)} (h : Sc w1 wr M V L) (hL : L.length ≤ 1000000000) :
   Calls Tryz.prog 14 #[.slice none 0 0, .pointer (some ⟨M, 0, none⟩)] wr fun e w' => e = .returned (.tuple #[]) ∧ Sc w1 w' M V (L ++ [[]]) := by
 have hM := h.lt
 obtain ⟨v, rs, hn, hc, hb⟩ := h
 refine (addP_any M M v V rs (by rw [← numsOf_len, hn]; exact hL) [] none 0 wr (by omega) hc (fun h => by simp at h) (fun a ha => by cases ha)).mono ?_
 rintro e w' ⟨rfl, v', r, hr, hc', hb', _⟩
 exact ⟨rfl, v', rs ++ [r], by rw [numsOf_app, hn, hr], hc', hb.trans hb'⟩
section
set_option maxHeartbeats 16000000 in
theorem st_quiet {code : Code} (hcode : code = ((Tryz.f7.body).bind (findSeq 47)).getD .skip) {r0 r5 r6 r7 r13 r14 r15 r16 r17 r18 r19 r20 r21 r22 r23 r24 r25 r26 r27 r28 r29 r30 r31 r32 r33 r34 r35 r36 r37 r38 r39 r40 r41 r42 r43 r44 r45 r46 r47 r48 r49 r50 r51 r52 r53 r54 r55 r56 r57 r58 r59 r60 r61 r62 r63 r64 r65 r66 r67 r68 r69 r70 r71 r72 r73 r74 r75 r76 r77 r78 r79 r80 r81 r82 r83 r84 r85 r86 r87 r88 r89 r90 r91 r92 r93 r94 r95 r96 r97 r98 r99 r100 r101 r102 r103 r104 r105 r106 r107 r108 r109 r110 r111 r112 r113 r114 r115 r116 r117 r118 r119 r120 r121 r122 r123 r124 r125 r126 r127 r128 r129 r130 r131 r132 r133 r134 r135 r136 r137 r138 r139 r140 r141 r142 r143 r144 r145 r146 r147 r148 r149 r150 r151 r152 r153 r154 r155 r156 r157 r158 r159 r160 r161 r162 r163 r164 r165 r166 r167 r168 r169 r170 r171 r172 r173 r174 r175 r176 r177 r178 r179 r180 r181 r182 r183 r184 r185 r186 r187 r188 r189 r190 r191 r192 r193 r194 r195 r196 r197 r198 r199 r200 r201 r202 r203 r204 r205 r206 r207 r208 r209 r210 r211 r212 r213 r214 r215 r216 r217 r218 r219 r220 r221 r222 r223 r224 r225 r226 r227 r228 r229 r230 r231 r232 r233 r234 r235 r236 r237 r238 r239 r240 r241 r242 r243 r244 r245 r246 r247 r248 r249 r250 r251 r252 r253 r254 r255 r256 r257 r258 r259 r260 r261 r262 r263 r264 r265 r266 r267 r268 r269 r270 r271 r272 r273 r274 r275 r276 r277 r278 r279 r280 r281 r282 r283 r284 r285 r286 r287 r288 r289 r290 r291 r292 r293 r294 r295 r296 r297 r298 r299 r300 r301 r302 r303 r304 r305 r306 r307 r308 r309 r310 r311 r312 r313 r314 r315 r316 r317 : Value} (w w1 : World) (B G F M : Nat) (C : Ci) (last : Nat) (begun : Bool) (V : Int) (L : List (List Int)) (wc : World) (HX : Hid (Fx w w1 B G F M C last)) (HS : Hid (Sc w1 wc M V L)) (HL : Hid (L.length ≤ 750000000)) (HV : Hid (0 ≤ V ∧ V ≤ 200000)) :
   Code.wp Tryz.prog code (bodyPost Tryz.prog Tryz.f7 (StO w (V + (cntP last (last + 1) : Int) * C.s) (L ++ stepsL (quietT C) last ++ diffL C last V))) ⟨#[r0, .int .i64 last, .bool begun, .bool true, .pointer (some ⟨B, 0, none⟩), r5, r6, r7, .pointer (some ⟨G, 0, none⟩), .pointer (some ⟨F, 0, none⟩), .pointer (some ⟨M, 0, none⟩), .func (.func 14) #[] #[.pointer (some ⟨M, 0, none⟩)], .func (.func 15) #[] #[.pointer (some ⟨F, 0, none⟩), .pointer (some ⟨B, 0, none⟩)], r13, r14, r15, r16, r17, r18, r19, r20, r21, r22, r23, r24, r25, r26, r27, r28, r29, r30, r31, r32, r33, r34, r35, r36, r37, r38, r39, r40, r41, r42, r43, r44, r45, r46, r47, r48, r49, r50, r51, r52, r53, r54, r55, r56, r57, r58, r59, r60, r61, r62, r63, r64, r65, r66, r67, r68, r69, r70, r71, r72, r73, r74, r75, r76, r77, r78, r79, r80, r81, r82, r83, r84, r85, r86, r87, r88, r89, r90, r91, r92, r93, r94, r95, r96, r97, r98, r99, r100, r101, r102, r103, r104, r105, r106, r107, r108, r109, r110, r111, r112, r113, r114, r115, r116, r117, r118, r119, r120, r121, r122, r123, r124, r125, r126, r127, r128, r129, r130, r131, r132, r133, r134, r135, r136, r137, r138, r139, r140, r141, r142, r143, r144, r145, r146, r147, r148, r149, r150, r151, r152, r153, r154, r155, r156, r157, r158, r159, r160, r161, r162, r163, r164, r165, r166, r167, r168, r169, r170, r171, r172, r173, r174, r175, r176, r177, r178, r179, r180, r181, r182, r183, r184, r185, r186, r187, r188, r189, r190, r191, r192, r193, r194, r195, r196, r197, r198, r199, r200, r201, r202, r203, r204, r205, r206, r207, r208, r209, r210, r211, r212, r213, r214, r215, r216, r217, r218, r219, r220, r221, r222, r223, r224, r225, r226, r227, r228, r229, r230, r231, r232, r233, r234, r235, r236, r237, r238, r239, r240, r241, r242, r243, r244, r245, r246, r247, r248, r249, r250, r251, r252, r253, r254, r255, r256, r257, r258, r259, r260, r261, r262, r263, r264, r265, r266, r267, r268, r269, r270, r271, r272, r273, r274, r275, r276, r277, r278, r279, r280, r281, r282, r283, r284, r285, r286, r287, r288, r289, r290, r291, r292, r293, r294, r295, r296, r297, r298, r299, r300, r301, r302, r303, r304, r305, r306, r307, r308, r309, r310, r311, r312, r313, r314, r315, r316, r317], []⟩ wc := by
 subst hcode
 conv => arg 2; whnf
 dsimp only
 have hok := HX.out.ok
 have hla := hok.la
 have hbl := hok.bl
 have hff := hok.f0
 have HTF : Hid (∀ t : Nat, t ≤ last → 0 ≤ (t : Int) * C.f ∧ (t : Int) * C.f + C.f ≤ 200000) := fun t ht => hok.tf ht
 have HNB : Hid (∀ k (h : k < C.b.ns.length), 0 ≤ C.b.ns[k] ∧ C.b.ns[k] < 2 * (1 + C.f)) := fun k h => hok.nb _ (List.getElem_mem h)
 have HCL : Hid (∀ t k, t ≤ last → k ≤ C.b.ns.length → (L ++ stepsL (quietT C) t ++ stepsL (quietC C t) k).length ≤ 850000000) := fun t k ht hk => by
   have h1 := stepsL_le (f := quietT C) (c := 2000000) (n := t) (fun j _ => Nat.le_trans (stepsL_le (f := quietC C j) (c := 1) (n := C.b.ns.length) (fun _ _ => rootC_le _)) (by omega))
   have h2 := stepsL_le (f := quietC C t) (c := 1) (n := k) (fun _ _ => rootC_le _)
   have := HL.out
   simp only [List.length_append]
   omega
 have HSU1 : Hid (∀ t, stepsL (quietT C) (t + 1) = stepsL (quietT C) t ++ stepsL (quietC C t) C.b.ns.length) := fun t => stepsL_succ _ _
 have HSU2 : Hid (∀ t k (h : k < C.b.ns.length), t ≤ last → stepsL (quietC C t) (k + 1) = stepsL (quietC C t) k ++ quiP C.b.ns[k] (t * C.f)) := fun t k h ht => by
   rw [stepsL_succ, ← quiet_P C.f t _ (HNB.out k h).1 (HTF.out t ht).1]
   unfold quietC
   rw [show C.b.ns.getD k 0 = C.b.ns[k] by simp [List.getD, List.getElem?_eq_getElem h]]
 clear hok
 have HL9 : Hid ((L ++ stepsL (quietT C) last).length ≤ 850000000) := by
   have hlb := HCL.out last 0 (by omega) (by omega)
   rw [show stepsL (quietC C last) 0 = [] from rfl, List.append_nil] at hlb
   exact hlb
 go_upto_block 15 with fail
 go_cut [] from 22 to 253 (fun wx => Hid (Sc w1 wx M V (L ++ stepsL (quietT C) last)))
 case rest =>
   go_step
   exact st_diff (by kernel_rfl) w w1 B G F M C last begun V _ wc HX hcut HL9 HV
 case first =>
 clear HL9
 go_wp2_with fail
 go_loopw [22] (fun i wr => ∃ t : Nat, t ≤ last ∧ i = .int .i64 t ∧ Hid (Sc w1 wr M V (L ++ stepsL (quietT C) t))) (fun i _ => last - (intOf i).toNat)
 case atStart => exact ⟨0, Nat.zero_le _, rfl, by simpa [stepsL, Hid] using HS.out⟩
 case round =>
   obtain ⟨t, ht, rfl, HR⟩ := hrel
   by_cases hlt : t < last
   · have hti : (t : Int) < (last : Int) := by omega
     have htf := HTF.out t (by omega)
     go_wp2
     go_loopw [23] (fun i wr => ∃ k : Nat, k ≤ C.b.ns.length ∧ i = .int .i64 k ∧ Hid (Sc w1 wr M V (L ++ stepsL (quietT C) t ++ stepsL (quietC C t) k))) (fun i _ => C.b.ns.length - (intOf i).toNat)
     case atStart => exact ⟨0, Nat.zero_le _, rfl, by simpa [stepsL, Hid] using HR.out⟩
     case round =>
       obtain ⟨k, hk, rfl, HR2⟩ := hrel
       have fy := HX.out.at HR2.out.bel
       have y6 := fy.x6
       by_cases hlk : k < C.b.ns.length
       · have hki : (k : Int) < (C.b.ns.length : Int) := by omega
         obtain ⟨bb, bo, hbe⟩ := row_is fy.at'.b (by omega)
         have ck := row_at fy.at'.b hlk hbe
         have HBE := hide hbe
         rw [hbe] at y6
         have hnk := HNB.out k hlk
         have hlb := HCL.out t k (by omega) hk
         have hlb1 : (L ++ stepsL (quietT C) t ++ stepsL (quietC C t) k).length ≤ 1000000000 := by omega
         have HSK := hide (HSU2.out t k hlk (by omega))
         have HNU := hide (fun u : World => numP_any C.b.ns[k] (t * C.f) hnk.1 (by omega) htf.1 (by omega) u)
         have hyb := numP_bd C.b.ns[k] (t * C.f) hnk.1 (by omega) htf.1 (by omega)
         have HSU : Hid (∀ u, Below M w1 u → u.cell? ⟨B, 6, none⟩ = some (.slice (some ⟨bb, bo, none⟩) C.b.ns.length C.b.cap) ∧ u.cell? ⟨bb, bo + k, none⟩ = some (.int .i64 C.b.ns[k]) ∧ u.cell? ⟨F, 0, none⟩ = some (.int .i64 C.f)) := fun u hu => by
           have f9 := HX.out.at hu
           have h6 := f9.x6
           rw [HBE.out] at h6
           exact ⟨h6, row_at f9.at'.b hlk HBE.out, f9.xf⟩
         clear fy hbe
         generalize C.b.ns[k] = x at *
         by_cases hx0 : x = 0
         · have HS9 : Hid (Sc w1 wr M V (L ++ stepsL (quietT C) t ++ stepsL (quietC C t) (k + 1))) := by
             unfold Hid
             rw [HSK.out]
             unfold quiP
             rw [if_pos hx0, List.append_nil]
             exact HR2.out
           subst hx0
           clear HSK HNU hyb hnk HR2 HSU
           go_wp2
           go_roundw
           case rel => exact ⟨k + 1, by omega, by go_num, HS9⟩
           case measure => simp [intOf]; omega
         · by_cases hx1 : x = 1
           · have HSK2 : Hid (stepsL (quietC C t) (k + 1) = stepsL (quietC C t) k ++ [[]]) := by unfold Hid; rw [HSK.out]; unfold quiP; rw [if_neg hx0, if_pos hx1]
             subst hx1
             clear HSK HNU hyb hnk hx0 HSU
             go_wp2_with fail
             refine (addS_none HR2.out hlb1).mono ?_
             rintro e w3 ⟨rfl, hs3⟩
             have HS9 : Hid (Sc w1 w3 M V (L ++ stepsL (quietT C) t ++ stepsL (quietC C t) (k + 1))) := by unfold Hid; rw [HSK2.out, ← List.append_assoc]; exact hs3
             clear hs3 HSK2 HR2 y6 ck hlb hlb1
             go_wp2
             go_roundw
             case rel => exact ⟨k + 1, by omega, by go_num, HS9⟩
             case measure => simp [intOf]; omega
           · have HSK2 : Hid (stepsL (quietC C t) (k + 1) = stepsL (quietC C t) k ++ [[-numP x (t * C.f)]]) := by unfold Hid; rw [HSK.out]; unfold quiP; rw [if_neg hx0, if_neg hx1]
             have hxb0 : (x == 0) = false := by simpa using hx0
             have hxb1 : (x == 1) = false := by simpa using hx1
             have wy := wrap_id (x := -numP x (t * C.f)) (by omega) (by omega)
             have wm := wrap_id (x := (t : Int) * C.f) (by omega) (by omega)
             have hbd : Below wr.heap.size wr wr.drew := (Below.refl _ wr).drew
             have HSD := hide (HR2.out.later hbd)
             clear HSK hx0 hx1 hnk hyb
             generalize numP x (t * C.f) = y at *
             go_wp2
             go_region_held3 (fun w' => w'.cell? ⟨B, 6, none⟩ = some (.slice (some ⟨bb, bo, none⟩) C.b.ns.length C.b.cap) ∧ w'.cell? ⟨bb, bo + k, none⟩ = some (.int .i64 x) ∧ w'.cell? ⟨F, 0, none⟩ = some (.int .i64 C.f))
               (first | exact HSU.out _ HS9.out.bel | exact HSU.out _ HSD.out.bel | exact HSU.out _ HR2.out.bel | exact ⟨past1 (HSU.out _ HSD.out.bel).1 _, past1 (HSU.out _ HSD.out.bel).2.1 _, past1 (HSU.out _ HSD.out.bel).2.2 _⟩ | go_keep)
               (first
                 | (go_at_call 14; refine (addS_one HSD.out hlb1 (-y)).mono ?_; rintro e w9 ⟨rfl, hs9⟩; have HS9 := hide hs9)
                 | (go_at_call 17; refine (HNU.out _).mono ?_; rintro e wu ⟨rfl, rfl⟩))
             all_goals
               rename_i hHeld
               have HS10 : Hid (Sc w1 w9 M V (L ++ stepsL (quietT C) t ++ stepsL (quietC C t) (k + 1))) := by unfold Hid; rw [HSK2.out, ← List.append_assoc]; exact HS9.out
               clear hHeld hs9 HS9 HSD hbd HSU HSK2 HR2 HNU y6 ck hlb hlb1 wy
               go_wp2
               go_roundw
               case rel => exact ⟨k + 1, by omega, by go_num, HS10⟩
               case measure => simp [intOf]; omega
       · obtain rfl : k = C.b.ns.length := by omega
         have HS9 : Hid (Sc w1 wr M V (L ++ stepsL (quietT C) (t + 1))) := by unfold Hid; rw [HSU1.out, ← List.append_assoc]; exact HR2.out
         clear fy HR2
         go_wp2
         go_roundw
         case rel => exact ⟨t + 1, by omega, by go_num, HS9⟩
         case measure => simp [intOf]; omega
   · obtain rfl : t = last := by omega
     go_wp2
     go_meet
     exact HR
end
end Go.Proofs.YtmambfdimeeijaaGreatDoor

namespace Go.Proofs.YtmambfdimeeijaaGreatDoor
open Go.RowKit Go.Maps Go.WideMaps
set_option maxRecDepth 100000
theorem own_append_i {w : World} {base n : Nat} {vp : Value} {xs : List Int} {y : Int} (h : w.ownsRow base 3 1 vp n (xs.map (Value.int .i64))) (hb : base ≤ w.heap.size) (hl : n ≤ 3000000) :
   ∃ p c w', (Builtin.append_ #[25, 25] 25 #[vp, .slice (some ⟨w.heap.size, 0, none⟩) 1 1]).run Tryz.prog (w.alloc (.cells #[.int .i64 y] 3)) = .ok (.slice p (n + 1) c) w' ∧ w'.ownsRow base 3 1 (.slice p (n + 1) c) (n + 1) ((xs ++ [y]).map (Value.int .i64)) ∧ (w.alloc (.cells #[.int .i64 y] 3)).grownBy w' vp.ownBlock := by
 obtain ⟨i0, hi, hz0, hz1, hz2⟩ := info_parts info3
 obtain ⟨vp', w', hr, ho, hg, _⟩ := run_append_own (P := Tryz.prog) (w := w.alloc (.cells #[.int .i64 y] 3)) base 25 25 3 i0 (.int .i64 0) 1 8 Tryz.underlying25 hi hz0 hz1 hz2 rfl (by decide) vp n _ (h.alloc (.cells #[.int .i64 y] 3)) ⟨w.heap.size, 0, none⟩ 1 1 [.int .i64 y] rfl
   (fun j u hj => by
     match j, hj with
     | 0, hj => simp at hj; subst hj; simp [go_sem, Addr.add]) (fun u hu => by simp at hu; subst hu; rfl) (by unfold maxLen; omega) (by omega) (by simp; omega)
 have ho' : w'.ownsRow base 3 1 vp' (n + 1) ((xs ++ [y]).map (Value.int .i64)) := by simpa using ho
 rcases ho'.2 with ⟨_, h0⟩ | ⟨g, cap, cur, rfl, _⟩
 · omega
 · exact ⟨_, cap, w', hr, ho', hg⟩
theorem own_app_below {wc w8 w9 : World} {n : Nat} {vp : Value} {xs : List Value} {o : Obj} (h : w8.ownsRow wc.heap.size 3 1 vp n xs) (hb : Below wc.heap.size wc w8) (hg : (w8.alloc o).grownBy w9 vp.ownBlock) : Below wc.heap.size wc w9 :=
 (bal hb o).grown hg (by have := hb.size; simp; omega) (fun k hk => (h.lt k hk).1)
theorem own_apart {w1 wc wr : World} {M : Nat} {V : Int} {L : List (List Int)} {n : Nat} {xs : List Value} {pl : Option Addr} {cl : Nat} {v : Value} {rs : List Row} {a : Addr} (_hs : Sc w1 wc M V L) (h : wr.ownsRow wc.heap.size 3 1 (.slice pl n cl) n xs) (_hb : Below wc.heap.size wc wr)
   (hc : Cm wr M M v V rs) (ha : pl = some a) (e : v.ownBlock = some a.block) : False := by
 subst ha
 rcases h.2 with ⟨e1, _⟩ | ⟨g, cap, cur, e1, _, hh, _⟩
 · cases e1
 · rcases hc.row.2 with ⟨e2, _⟩ | ⟨g2, cap2, cur2, e2, _, hh2, _⟩
   · subst e2; simp [Value.ownBlock] at e
   · subst e2
     cases e1
     have e3 : g2 = g := by simpa [Value.ownBlock] using e
     rw [e3, hh] at hh2
     cases hh2
section
set_option maxHeartbeats 16000000 in
theorem st_bad {code : Code} (hcode : code = ((Tryz.f7.body).bind (findSeq 37)).getD .skip) {r0 r5 r6 r7 r13 r14 r15 r16 r17 r18 r19 r20 r21 r22 r23 r24 r25 r26 r27 r28 r29 r30 r31 r32 r33 r34 r35 r36 r37 r38 r39 r40 r41 r42 r43 r44 r45 r46 r47 r48 r49 r50 r51 r52 r53 r54 r55 r56 r57 r58 r59 r60 r61 r62 r63 r64 r65 r66 r67 r68 r69 r70 r71 r72 r73 r74 r75 r76 r77 r78 r79 r80 r81 r82 r83 r84 r85 r86 r87 r88 r89 r90 r91 r92 r93 r94 r95 r96 r97 r98 r99 r100 r101 r102 r103 r104 r105 r106 r107 r108 r109 r110 r111 r112 r113 r114 r115 r116 r117 r118 r119 r120 r121 r122 r123 r124 r125 r126 r127 r128 r129 r130 r131 r132 r133 r134 r135 r136 r137 r138 r139 r140 r141 r142 r143 r144 r145 r146 r147 r148 r149 r150 r151 r152 r153 r154 r155 r156 r157 r158 r159 r160 r161 r162 r163 r164 r165 r166 r167 r168 r169 r170 r171 r172 r173 r174 r175 r176 r177 r178 r179 r180 r181 r182 r183 r184 r185 r186 r187 r188 r189 r190 r191 r192 r193 r194 r195 r196 r197 r198 r199 r200 r201 r202 r203 r204 r205 r206 r207 r208 r209 r210 r211 r212 r213 r214 r215 r216 r217 r218 r219 r220 r221 r222 r223 r224 r225 r226 r227 r228 r229 r230 r231 r232 r233 r234 r235 r236 r237 r238 r239 r240 r241 r242 r243 r244 r245 r246 r247 r248 r249 r250 r251 r252 r253 r254 r255 r256 r257 r258 r259 r260 r261 r262 r263 r264 r265 r266 r267 r268 r269 r270 r271 r272 r273 r274 r275 r276 r277 r278 r279 r280 r281 r282 r283 r284 r285 r286 r287 r288 r289 r290 r291 r292 r293 r294 r295 r296 r297 r298 r299 r300 r301 r302 r303 r304 r305 r306 r307 r308 r309 r310 r311 r312 r313 r314 r315 r316 r317 : Value} (w w1 : World) (B G F M : Nat) (C : Ci) (last : Nat) (begun : Bool) (V : Int) (L : List (List Int)) (wc : World) (HX : Hid (Fx w w1 B G F M C last)) (HS : Hid (Sc w1 wc M V L)) (HL : Hid (L.length ≤ 700000000)) (HV : Hid (0 ≤ V ∧ V ≤ 200000)) :
   Code.wp Tryz.prog code (bodyPost Tryz.prog Tryz.f7 (StO w (V + (cntP last (last + 1) : Int) * C.s) (L ++ badC C last ++ stepsL (quietT C) last ++ diffL C last V))) ⟨#[r0, .int .i64 last, .bool begun, .bool true, .pointer (some ⟨B, 0, none⟩), r5, r6, r7, .pointer (some ⟨G, 0, none⟩), .pointer (some ⟨F, 0, none⟩), .pointer (some ⟨M, 0, none⟩), .func (.func 14) #[] #[.pointer (some ⟨M, 0, none⟩)], .func (.func 15) #[] #[.pointer (some ⟨F, 0, none⟩), .pointer (some ⟨B, 0, none⟩)], r13, r14, r15, r16, r17, r18, r19, r20, r21, r22, r23, r24, r25, r26, r27, r28, r29, r30, r31, r32, r33, r34, r35, r36, r37, r38, r39, r40, r41, r42, r43, r44, r45, r46, r47, r48, r49, r50, r51, r52, r53, r54, r55, r56, r57, r58, r59, r60, r61, r62, r63, r64, r65, r66, r67, r68, r69, r70, r71, r72, r73, r74, r75, r76, r77, r78, r79, r80, r81, r82, r83, r84, r85, r86, r87, r88, r89, r90, r91, r92, r93, r94, r95, r96, r97, r98, r99, r100, r101, r102, r103, r104, r105, r106, r107, r108, r109, r110, r111, r112, r113, r114, r115, r116, r117, r118, r119, r120, r121, r122, r123, r124, r125, r126, r127, r128, r129, r130, r131, r132, r133, r134, r135, r136, r137, r138, r139, r140, r141, r142, r143, r144, r145, r146, r147, r148, r149, r150, r151, r152, r153, r154, r155, r156, r157, r158, r159, r160, r161, r162, r163, r164, r165, r166, r167, r168, r169, r170, r171, r172, r173, r174, r175, r176, r177, r178, r179, r180, r181, r182, r183, r184, r185, r186, r187, r188, r189, r190, r191, r192, r193, r194, r195, r196, r197, r198, r199, r200, r201, r202, r203, r204, r205, r206, r207, r208, r209, r210, r211, r212, r213, r214, r215, r216, r217, r218, r219, r220, r221, r222, r223, r224, r225, r226, r227, r228, r229, r230, r231, r232, r233, r234, r235, r236, r237, r238, r239, r240, r241, r242, r243, r244, r245, r246, r247, r248, r249, r250, r251, r252, r253, r254, r255, r256, r257, r258, r259, r260, r261, r262, r263, r264, r265, r266, r267, r268, r269, r270, r271, r272, r273, r274, r275, r276, r277, r278, r279, r280, r281, r282, r283, r284, r285, r286, r287, r288, r289, r290, r291, r292, r293, r294, r295, r296, r297, r298, r299, r300, r301, r302, r303, r304, r305, r306, r307, r308, r309, r310, r311, r312, r313, r314, r315, r316, r317], []⟩ wc := by
 subst hcode
 conv => arg 2; whnf
 dsimp only
 have hfy := HX.out.at HS.out.bel
 have hok := HX.out.ok
 have hbl := hok.bl
 have htf := hok.tf (Nat.le_refl last)
 have hnb := hok.nb
 have hff := hok.f0
 have HHAS := hide (hasP_any 1 C.b.ns C.b.at' C.b.cap (by omega) wc hfy.at'.b)
 have HBI := hide hfy.at'.b
 have HHH : Hid (badC C last = if (1 : Int) ∈ C.b.ns then [] else [badN C last C.b.ns.length]) := rfl
 have HLB1 : Hid ((badC C last).length ≤ 1) := by unfold badC; split <;> simp [Hid]
 generalize badC C last = LB at *
 have y6 := hfy.x6
 have yf := hfy.xf
 clear hfy hok
 by_cases h1 : (1 : Int) ∈ C.b.ns
 · have HE : Hid (LB = []) := by unfold Hid; rw [HHH.out, if_pos h1]
   rw [show decide ((1 : Int) ∈ C.b.ns) = true by simpa using h1] at HHAS
   clear h1 HHH
   have HS9 : Hid (Sc w1 wc M V (L ++ LB)) := by rw [HE.out, List.append_nil]; exact HS.out
   clear HS HE
   go_wp2_with fail
   refine HHAS.out.mono ?_
   rintro e w2 ⟨rfl, hw2⟩
   obtain rfl : wc = w2 := hw2.symm
   clear hw2 HHAS
   have HL9 : Hid ((L ++ LB).length ≤ 750000000) := by
     have := HL.out
     unfold Hid
     rw [List.length_append]
     have := HLB1.out
     omega
   go_upto_region 45 with fail
   iterate 14 go_step
   exact st_quiet (by kernel_rfl) w w1 B G F M C last begun V _ wc HX HS9 HL9 HV
 · have HE : Hid (LB = [badN C last C.b.ns.length]) := by unfold Hid; rw [HHH.out, if_neg h1]
   rw [show decide ((1 : Int) ∈ C.b.ns) = false by simpa using h1] at HHAS
   have HB2 : Hid (∀ k (h : k < C.b.ns.length), C.b.ns[k] ≠ 1) := fun k h e => h1 (e ▸ List.getElem_mem h)
   have HSU : Hid (∀ k (h : k < C.b.ns.length), badN C last (k + 1) = if C.b.ns[k] = 0 then badN C last k else badN C last k ++ [numL (atL C.f last C.b.ns[k])]) := fun k h => by
     have := badN_succ C last k h
     rw [show C.b.ns.getD k 0 = C.b.ns[k] by simp [List.getD, List.getElem?_eq_getElem h]] at this
     exact this
   have HLN : Hid (∀ k, (badN C last k).length ≤ k) := fun k => badN_len C last k
   have HNB : Hid (∀ k (h : k < C.b.ns.length), 0 ≤ C.b.ns[k] ∧ C.b.ns[k] < 2 * (1 + C.f)) := fun k h => hnb _ (List.getElem_mem h)
   clear h1 HHH hnb
   have wmul := wrap_id (x := (last : Int) * C.f) (by omega) (by omega)
   go_wp2_with fail
   refine HHAS.out.mono ?_
   rintro e w2 ⟨rfl, hw2⟩
   obtain rfl : wc = w2 := hw2.symm
   clear hw2 HHAS
   go_wp2
   go_loopw [20, 21] (fun l i wr => ∃ k : Nat, k ≤ C.b.ns.length ∧ i = .int .i64 k ∧ Hid (∃ xs : List Int, xs = badN C last k ∧ wr.ownsRow wc.heap.size 3 1 l xs.length (xs.map (Value.int .i64)) ∧ Below wc.heap.size wc wr)) (fun _ i _ => C.b.ns.length - (intOf i).toNat)
   case atStart => exact ⟨0, Nat.zero_le _, rfl, [], by simp [badN], World.ownsRow_nil _ _ _ _, Below.refl _ _⟩
   case round =>
     obtain ⟨k, hk, rfl, HR⟩ := hrel
     obtain ⟨xs, hxs, hrow, hbw⟩ := HR.out
     have z6 := cell_later hbw y6
     have zf := cell_later hbw yf
     have hxl : xs.length ≤ 2000000 := by rw [hxs]; have := HLN.out k; omega
     have HXS := hide hxs
     have HBW := hide hbw
     have HROW := hide hrow
     obtain ⟨pl, cl, rfl, hil, _⟩ := owns_ints hrow
     clear HR hxs hrow
     by_cases hlt : k < C.b.ns.length
     · have hki : (k : Int) < (C.b.ns.length : Int) := by omega
       obtain ⟨bb, bo, hbe, hbc⟩ := HBI.out (by omega)
       have ck0 := hbc k hlt
       have ck := cell_later hbw ck0
       have hS := HSU.out k hlt
       have hnk := HNB.out k hlt
       have hn1 := HB2.out k hlt
       have HBE := hide hbe
       rw [hbe] at z6
       clear hbc hil hbe
       generalize C.b.ns[k] = x at *
       by_cases hx0 : x = 0
       · have HX2 : Hid (xs = badN C last (k + 1)) := by unfold Hid; rw [HXS.out, hS, if_pos hx0]
         subst hx0
         clear hS HXS hnk hn1
         go_wp2
         go_roundw
         case rel => exact ⟨k + 1, by omega, by go_num, xs, HX2.out, HROW.out, HBW.out⟩
         case measure => simp [intOf]; omega
       · have hx0b : (x != 0) = true := by simpa using hx0
         have HNU := hide (fun u : World => ((numP_any x (last * C.f) hnk.1 (by omega) htf.1 (by omega) u).mono fun e w' (h : e = .returned (.int .i64 (numP x (last * C.f))) ∧ w' = u) => (⟨h.1, h.2 ▸ Below.refl _ _⟩ : e = .returned (.int .i64 (numP x (last * C.f))) ∧ Below u.heap.size u w')))
         have HX2 : Hid (xs ++ [numP x (last * C.f)] = badN C last (k + 1)) := by unfold Hid; rw [HXS.out, hS, if_neg hx0, numP_at C.f last x (by omega)]
         have hbd : Below wr.heap.size wr wr.drew := (Below.refl _ wr).drew
         generalize numP x (last * C.f) = y at *
         clear hS HXS hnk hn1 hx0
         rw [HBE.out] at y6
         go_wp2
         go_region_held3 (fun w' => w'.cell? ⟨B, 6, none⟩ = some (.slice (some ⟨bb, bo, none⟩) C.b.ns.length C.b.cap) ∧ w'.cell? ⟨bb, bo + k, none⟩ = some (.int .i64 x) ∧ w'.cell? ⟨F, 0, none⟩ = some (.int .i64 C.f))
           (first | exact ⟨cell_later HB9.out y6, cell_later HB9.out ck0, cell_later HB9.out yf⟩ | exact ⟨past1 (cell_later hb8 z6) _, past1 (cell_later hb8 ck) _, past1 (cell_later hb8 zf) _⟩ | exact ⟨cell_later hb8 z6, cell_later hb8 ck, cell_later hb8 zf⟩ | exact ⟨cell_later hbd z6, cell_later hbd ck, cell_later hbd zf⟩ | go_keep)
           ((first | (go_at_call 17; refine (HNU.out _).mono ?_; rintro e w8 ⟨rfl, hb8'⟩; have hb8 : Below wr.heap.size wr w8 := bthen hbd hb8'
                      obtain ⟨p9, c9, w9, hrun9, ho9, hg9⟩ := own_append_i (y := y) (owns_below HROW.out hb8) (by have := HBW.out.size; have := hb8.size; omega) (by omega)
                      have HB9 : Hid (Below wc.heap.size wc w9) := own_app_below (owns_below HROW.out hb8) (bthen HBW.out hb8) hg9
                      have HO9 := hide ho9) | (refine step_appR rfl _ _ _ _ rfl _ _ rfl rfl _ _ hrun9 ?_)))
         all_goals
           rename_i hHeld
           clear hHeld hrun9 ho9 hg9 hb8 hb8' z6 zf ck
           go_wp2
           go_roundw
           case rel =>
             exact ⟨k + 1, by omega, by go_num, xs ++ [y], HX2.out, by simpa using HO9.out, HB9.out⟩
           case measure => simp [intOf]; omega
     · obtain rfl : k = C.b.ns.length := by omega
       have HS7 := hide (HS.out.later hbw)
       obtain ⟨v7, rs7, hn7, hc7, hbm7⟩ := HS7.out
       have HAL := hide (bal (Below.refl wr.heap.size wr) (.cells #[.slice pl xs.length cl] 25))
       have hM := HS.out.lt
       have hsz := hbw.size
       have HLB : Hid (numsOf rs7 ++ numsOf [⟨pl, xs, cl⟩] = L ++ LB) := by unfold Hid; rw [hn7, HE.out, ← HXS.out]; rfl
       obtain ⟨pv, cv, rfl, _⟩ := owns_rows hc7.row
       have hsum : rs7.length + [(⟨pl, xs, cl⟩ : Row)].length ≤ 2000000000 := by
         have h1 : rs7.length = L.length := by rw [← hn7, numsOf_len]
         have h2 := HL.out
         simp only [List.length_cons, List.length_nil]
         omega
       have hap := sc_rows (w1 := w1) (p := some ⟨wr.heap.size, 0, none⟩) (cap := 1) (rs2 := [⟨pl, xs, cl⟩]) (hc7.below HAL.out) (hbm7.trans (HAL.out.mono (by omega))) (hsum)
         (fun _ => ⟨_, _, rfl, fun i hi => by
           match i, hi with
           | 0, _ => simp [go_sem, Row.v]⟩) (fun r hr => by simp at hr; subst hr; exact hil.later HAL.out) (fun r hr a ha => by
           simp at hr
           subst hr
           simp only at ha
           have h2 := HROW.out.lt a.block (by subst ha; simp [Value.ownBlock])
           refine ⟨by omega, fun e => ?_, by simp; omega, by omega⟩
           have h3 := hc7.row
           have hb7 := HS.out
           exact own_apart HS.out HROW.out hbw hc7 ha e)
       rw [HLB.out] at hap
       obtain ⟨p9, n9, c9, w9, hrun9, k1, kf, hsc9, hbm9⟩ := hap
       have HS9 := hide hsc9
       have m1 := hc7.c1
       clear hsc9 hbm9 HS7 hc7 hn7 hbm7 hil hbw
       simp only [List.length_cons, List.length_nil, Nat.zero_add] at hrun9
       go_upto_region 45 with (at_builtin; refine Lib.wpList_append_run _ rfl _ _ _ _ rfl _ _ rfl rfl _ _ hrun9 ?_)
       generalize w9.setCell ⟨M, 1, none⟩ (.slice p9 n9 c9) = wz at *
       clear hrun9 k1 kf m1 z6 zf y6 yf
       have HL9 : Hid ((L ++ LB).length ≤ 750000000) := by
         have := HL.out
         unfold Hid
         rw [List.length_append]
         have := HLB1.out
         omega
       iterate 14 go_step
       exact st_quiet (by kernel_rfl) w w1 B G F M C last begun V _ wz HX HS9 HL9 HV
end
end Go.Proofs.YtmambfdimeeijaaGreatDoor
