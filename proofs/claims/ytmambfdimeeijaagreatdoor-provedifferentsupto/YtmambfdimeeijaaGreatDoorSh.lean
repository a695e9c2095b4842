/- The plain texts of steps that differ: the states of each two steps. -/
import Derived.Test.YtmambfdimeeijaaGreatDoorSfM
import Derived.Deep.CutRange
import Derived.Deep.CutBlock
import Derived.Deep.RegionHeld3
namespace Go.Proofs.YtmambfdimeeijaaGreatDoor
open Go.RowKit Go.Maps Go.WideMaps
set_option maxRecDepth 100000
set_option autoImplicit false
section
attribute [-go_sem] Builtin.append_
set_option maxHeartbeats 16000000 in
theorem st_diff {code : Code} (hcode : code = seq7 58) {r0 r5 r6 r7 r13 r14 r15 r16 r17 r18 r19 r20 r21 r22 r23 r24 r25 r26 r27 r28 r29 r30 r31 r32 r33 r34 r35 r36 r37 r38 r39 r40 r41 r42 r43 r44 r45 r46 r47 r48 r49 r50 r51 r52 r53 r54 r55 r56 r57 r58 r59 r60 r61 r62 r63 r64 r65 r66 r67 r68 r69 r70 r71 r72 r73 r74 r75 r76 r77 r78 r79 r80 r81 r82 r83 r84 r85 r86 r87 r88 r89 r90 r91 r92 r93 r94 r95 r96 r97 r98 r99 r100 r101 r102 r103 r104 r105 r106 r107 r108 r109 r110 r111 r112 r113 r114 r115 r116 r117 r118 r119 r120 r121 r122 r123 r124 r125 r126 r127 r128 r129 r130 r131 r132 r133 r134 r135 r136 r137 r138 r139 r140 r141 r142 r143 r144 r145 r146 r147 r148 r149 r150 r151 r152 r153 r154 r155 r156 r157 r158 r159 r160 r161 r162 r163 r164 r165 r166 r167 r168 r169 r170 r171 r172 r173 r174 r175 r176 r177 r178 r179 r180 r181 r182 r183 r184 r185 r186 r187 r188 r189 r190 r191 r192 r193 r194 r195 r196 r197 r198 r199 r200 r201 r202 r203 r204 r205 r206 r207 r208 r209 r210 r211 r212 r213 r214 r215 r216 r217 r218 r219 r220 r221 r222 r223 r224 r225 r226 r227 r228 r229 r230 r231 r232 r233 r234 r235 r236 r237 r238 r239 r240 r241 r242 r243 r244 r245 r246 r247 r248 r249 r250 r251 r252 r253 r254 r255 r256 r257 r258 r259 r260 r261 r262 r263 r264 r265 r266 r267 r268 r269 r270 r271 r272 r273 r274 r275 r276 r277 r278 r279 r280 r281 r282 r283 r284 r285 r286 r287 r288 r289 r290 r291 r292 r293 r294 r295 r296 r297 r298 r299 r300 r301 r302 r303 r304 r305 r306 r307 r308 r309 r310 r311 r312 r313 r314 r315 r316 r317 : Value} (w w1 : World) (B G F M : Nat) (C : Ci) (last : Nat) (begun : Bool) (V : Int) (L : List (List Int)) (wc : World) (HX : Hid (Fx w w1 B G F M C last)) (HS : Hid (Sc w1 wc M V L)) (HL : Hid (L.length ≤ 850000000)) (HV : Hid (0 ≤ V ∧ V ≤ 200000)) :
   Code.wp Tryz.prog code (bodyPost Tryz.prog Tryz.f7 (StO w (V + (cntP last (last + 1) : Int) * C.s) (L ++ diffL C last V))) ⟨#[r0, .int .i64 last, .bool begun, .bool true, .pointer (some ⟨B, 0, none⟩), r5, r6, r7, .pointer (some ⟨G, 0, none⟩), .pointer (some ⟨F, 0, none⟩), .pointer (some ⟨M, 0, none⟩), .func (.func 14) #[] #[.pointer (some ⟨M, 0, none⟩)], .func (.func 15) #[] #[.pointer (some ⟨F, 0, none⟩), .pointer (some ⟨B, 0, none⟩)], r13, r14, r15, r16, r17, r18, r19, r20, r21, r22, r23, r24, r25, r26, r27, r28, r29, r30, r31, r32, r33, r34, r35, r36, r37, r38, r39, r40, r41, r42, r43, r44, r45, r46, r47, r48, r49, r50, r51, r52, r53, r54, r55, r56, r57, r58, r59, r60, r61, r62, r63, r64, r65, r66, r67, r68, r69, r70, r71, r72, r73, r74, r75, r76, r77, r78, r79, r80, r81, r82, r83, r84, r85, r86, r87, r88, r89, r90, r91, r92, r93, r94, r95, r96, r97, r98, r99, r100, r101, r102, r103, r104, r105, r106, r107, r108, r109, r110, r111, r112, r113, r114, r115, r116, r117, r118, r119, r120, r121, r122, r123, r124, r125, r126, r127, r128, r129, r130, r131, r132, r133, r134, r135, r136, r137, r138, r139, r140, r141, r142, r143, r144, r145, r146, r147, r148, r149, r150, r151, r152, r153, r154, r155, r156, r157, r158, r159, r160, r161, r162, r163, r164, r165, r166, r167, r168, r169, r170, r171, r172, r173, r174, r175, r176, r177, r178, r179, r180, r181, r182, r183, r184, r185, r186, r187, r188, r189, r190, r191, r192, r193, r194, r195, r196, r197, r198, r199, r200, r201, r202, r203, r204, r205, r206, r207, r208, r209, r210, r211, r212, r213, r214, r215, r216, r217, r218, r219, r220, r221, r222, r223, r224, r225, r226, r227, r228, r229, r230, r231, r232, r233, r234, r235, r236, r237, r238, r239, r240, r241, r242, r243, r244, r245, r246, r247, r248, r249, r250, r251, r252, r253, r254, r255, r256, r257, r258, r259, r260, r261, r262, r263, r264, r265, r266, r267, r268, r269, r270, r271, r272, r273, r274, r275, r276, r277, r278, r279, r280, r281, r282, r283, r284, r285, r286, r287, r288, r289, r290, r291, r292, r293, r294, r295, r296, r297, r298, r299, r300, r301, r302, r303, r304, r305, r306, r307, r308, r309, r310, r311, r312, r313, r314, r315, r316, r317], []⟩ wc := by
 subst hcode
 conv => arg 2; whnf
 dsimp only
 have hok := HX.out.ok
 have hla := hok.la
 have hff := hok.f0
 have ha0 := hok.a0
 have hs0 := hok.s0
 have ha1 : C.a ≤ 1000 := by have := hok.sm; have := hok.i1; omega
 have hs1 : C.s ≤ 1000 := by have := hok.sm; have := hok.i1; omega
 have HTF : Hid (∀ t : Nat, t ≤ last → 0 ≤ (t : Int) * C.f ∧ (t : Int) * C.f + C.f ≤ 200000) := fun t ht => hok.tf ht
 obtain ⟨n, hsn⟩ : ∃ n : Nat, C.s.toNat = n := ⟨_, rfl⟩
 have hsi : C.s = (n : Int) := by omega
 have hN : cntP last (last + 1) ≤ 820 := by
   have h1 := cntP_all last
   have : last * (last + 1) ≤ 40 * 41 := Nat.mul_le_mul hla (by omega)
   omega
 have HCM : Hid (∀ t, t ≤ last → cntP last t + (last - t) ≤ 820) := fun t ht => Nat.le_trans (cntP_mono last (show t + 1 ≤ last + 1 by omega)) hN
 have HCS : Hid (∀ t, cntP last (t + 1) = cntP last t + (last - t)) := fun _ => rfl
 have HRS : Hid (∀ t, stepsL (rowsT C last V) (t + 1) = stepsL (rowsT C last V) t ++ rowT C last V t (last - t)) := fun t => stepsL_succ _ t
 have HPS : Hid (∀ t j, rowT C last V t (j + 1) = rowT C last V t j ++ (stepsL (differC C t (t + 1 + j) (V + ((cntP last t + j : Nat) : Int) * C.s)) n ++ [someV (V + ((cntP last t + j : Nat) : Int) * C.s) n])) := fun t j => by
   show stepsL _ (j + 1) = _
   rw [stepsL_succ]
   show _ ++ differT _ _ _ _ = _
   unfold differT
   rw [hsn]
   rfl
 have HLN : Hid (∀ t j, t ≤ last → j ≤ last - t → (L ++ stepsL (rowsT C last V) t ++ rowT C last V t j).length ≤ 900000000) := fun t j ht hj => by
   have h1 := HL.out
   have h2 := HCM.out t ht
   have h3 : (cntP last t + j) * (2 * C.s.toNat + 1) ≤ 820 * 2001 := Nat.mul_le_mul (by omega) (by omega)
   rw [Nat.add_mul] at h3
   simp only [List.length_append, rows_len, rowT_len]
   omega
 have HVB : Hid (∀ t j, t ≤ last → j ≤ last - t → 0 ≤ V + ((cntP last t + j : Nat) : Int) * C.s ∧ V + ((cntP last t + j : Nat) : Int) * C.s ≤ 1100000) := fun t j ht hj => by
   have h2 := HCM.out t ht
   have h3 : 0 ≤ ((cntP last t + j : Nat) : Int) * C.s := Int.mul_nonneg (by omega) hs0
   have h4 : ((cntP last t + j : Nat) : Int) * C.s ≤ 820 * 1000 := Int.mul_le_mul (by omega) hs1 hs0 (by omega)
   have := HV.out
   omega
 have HVS : Hid (∀ m : Nat, V + ((m + 1 : Nat) : Int) * C.s = V + (m : Int) * C.s + (n : Int)) := fun m => by
   rw [Int.natCast_add, Int.add_mul, ← hsi]; simp; omega
 have HSI := hide hsi
 clear hok hN hsi
 go_upto_block 20 with fail
 go_cut [] from 24 to 316 (fun wx => Hid (Sc w1 wx M (V + (cntP last (last + 1) : Int) * C.s) (L ++ diffL C last V)))
 case rest =>
   clear HTF HCM HCS HRS HPS HLN HVB HVS
   go_step
   obtain ⟨pz, nz, cz, m0, m1, g0, g1, f0, f1, gh, HO⟩ := stO_of HX.out hcut
   have GH := hide gh
   have HOO := hide HO
   clear gh HO
   go_wp2
   refine bodyPost_ret (results_cell_row rfl _ _ G 30 _ _ _ rfl GH.out Tryz.underlying30 rfl (by kernel_rfl)) rfl ?_
   exact HOO.out
 case first =>
 go_wp2_with fail
 go_loopw [24] (fun i wr => ∃ t : Nat, t ≤ last + 1 ∧ i = .int .i64 t ∧ Hid (Sc w1 wr M (V + (cntP last t : Int) * C.s) (L ++ stepsL (rowsT C last V) t))) (fun i _ => last + 1 - (intOf i).toNat)
 case atStart => exact ⟨0, Nat.zero_le _, rfl, by simpa [stepsL, Hid, cntP] using HS.out⟩
 case round =>
   obtain ⟨t, ht, rfl, HR⟩ := hrel
   by_cases hlt : t ≤ last
   · have hti : (t : Int) ≤ (last : Int) := by omega
     have wt := wrap_id (x := (t : Int) + 1) (by omega) (by omega)
     have htf := HTF.out t hlt
     go_wp2
     go_loopw [25] (fun i wr => ∃ j : Nat, ∃ s : Int, j ≤ last - t ∧ Hid (AtU t j s) ∧ i = .int .i64 s ∧ Hid (Sc w1 wr M (V + ((cntP last t + j : Nat) : Int) * C.s) (L ++ stepsL (rowsT C last V) t ++ rowT C last V t j))) (fun i _ => last + 1 - (intOf i).toNat)
     case atStart => exact ⟨0, (t : Int) + 1, Nat.zero_le _, by unfold Hid AtU; simp, rfl, by simpa [rowT, stepsL, Hid] using HR.out⟩
     case round =>
       obtain ⟨j, s, hj, HSA, rfl, HR2⟩ := hrel
       have hs2 : s = ((t + 1 + j : Nat) : Int) := HSA.out
       have hsb : 1 ≤ s ∧ s ≤ 42 := by omega
       have HSS := hide hs2
       by_cases hjl : j < last - t
       · have hsl : s ≤ (last : Int) := by omega
         have hsf : 0 ≤ s * C.f ∧ s * C.f + C.f ≤ 200000 := by rw [hs2]; exact HTF.out (t + 1 + j) (by omega)
         have hlb := HLN.out t j hlt hj
         have hvb := HVB.out t j hlt hj
         have HPJ := hide (HPS.out t j)
         have HVJ := hide (HVS.out (cntP last t + j))
         have HDS : Hid (∀ k, stepsL (differC C t (t + 1 + j) (V + ((cntP last t + j : Nat) : Int) * C.s)) (k + 1) = stepsL (differC C t (t + 1 + j) (V + ((cntP last t + j : Nat) : Int) * C.s)) k ++ [[-(V + ((cntP last t + j : Nat) : Int) * C.s + k + 1), (t : Int) * C.f + 1 + C.a + k, s * C.f + 1 + C.a + k], [-(V + ((cntP last t + j : Nat) : Int) * C.s + k + 1), -((t : Int) * C.f + 1 + C.a + k), -(s * C.f + 1 + C.a + k)]]) := fun k => by
           rw [differ_step, (stL_num C.f C.a t k htf.1 ha0).1, (stL_num C.f C.a (t + 1 + j) k (HTF.out _ (by omega)).1 ha0).1, ← hs2]
         have HDL : Hid (∀ k, (stepsL (differC C t (t + 1 + j) (V + ((cntP last t + j : Nat) : Int) * C.s)) k).length = k * 2) := fun k => differ_len C t (t + 1 + j) _ k
         obtain ⟨Vj, HVE⟩ : ∃ Vj : Int, Hid (V + ((cntP last t + j : Nat) : Int) * C.s = Vj) := ⟨_, rfl⟩
         rw [HVE.out] at HPJ HVJ HDS HDL HR2 hvb
         generalize hLJ : L ++ stepsL (rowsT C last V) t ++ rowT C last V t j = LJ at *
         have HLJ := hide hLJ
         clear hLJ
         generalize stepsL (differC C t (t + 1 + j) Vj) = DK at *
         have HPN := hide (ps_nil HR2.out)
         clear hs2 HR2
         generalize wr = w5 at *
         go_wp2
         go_loopw [26, 27] (fun q i wr => ∃ k : Nat, k ≤ n ∧ i = .int .i64 k ∧ Hid (Ps w1 wr M (Vj + k) (LJ ++ DK k) w5 q (someV Vj k))) (fun _ i _ => n - (intOf i).toNat)
         case atStart => exact ⟨0, Nat.zero_le _, rfl, by have h0 : DK 0 = [] := List.eq_nil_of_length_eq_zero (by rw [HDL.out]); rw [h0]; simpa [someV, Hid] using HPN.out⟩
         case round =>
           obtain ⟨k, hk, rfl, HP⟩ := hrel
           have fy := HX.out.at HP.out.sc.bel
           have y3 := fy.x3
           rw [HSI.out] at y3
           clear fy
           by_cases hlk : k < n
           · have hki : (k : Int) < (n : Int) := by omega
             obtain ⟨nv, HNV⟩ : ∃ nv : Int, Hid (Vj + (k : Int) + 1 = nv) := ⟨_, rfl⟩
             have hnv : 0 ≤ nv ∧ nv ≤ 1200000 := by have := HNV.out; omega
             have wnv := wrap_id (x := Vj + (k : Int) + 1) (by omega) (by omega)
             have HDK := hide (HDS.out k)
             rw [HNV.out] at HDK wnv
             have hll : (LJ ++ DK k).length ≤ 1000000000 := by rw [List.length_append, HDL.out]; omega
             have HSK : Hid (someV Vj (k + 1) = someV Vj k ++ [nv]) := by unfold Hid; rw [someV_succ, HNV.out]
             obtain ⟨c0, f0⟩ : wr.cell? ⟨M, 0, none⟩ = some (.int .i64 (Vj + (k : Int))) ∧ wr.frozen? ⟨M, 0, none⟩ = false := by
               obtain ⟨v, rs, _, hc, _⟩ := HP.out
               exact ⟨hc.c0, hc.f0⟩
             rw [← HNV.out] at wnv
             have HP6 : Hid (Ps w1 (wr.setCell ⟨M, 0, none⟩ (.int .i64 nv)) M nv (LJ ++ DK k) w5 u26 (someV Vj k)) := HP.out.setV nv
             have d0 : (wr.setCell ⟨M, 0, none⟩ (.int .i64 nv)).cell? ⟨M, 0, none⟩ = some (.int .i64 nv) := World.cell?_setCell_same wr _ _ c0
             obtain ⟨a, HA⟩ : ∃ a : Int, Hid ((t : Int) * C.f + 1 + C.a + k = a) := ⟨_, rfl⟩
             obtain ⟨b, HB⟩ : ∃ b : Int, Hid (s * C.f + 1 + C.a + k = b) := ⟨_, rfl⟩
             have hab : 0 ≤ a ∧ a ≤ 300000 ∧ 0 ≤ b ∧ b ≤ 300000 := by have := HA.out; have := HB.out; omega
             rw [HA.out, HB.out] at HDK
             have wn := wrap_id (x := -nv) (by omega) (by omega)
             have wa := wrap_id (x := -a) (by omega) (by omega)
             have wb := wrap_id (x := -b) (by omega) (by omega)
             have HBI : Hid (∀ (q x : Int), (q = (t : Int) ∧ x = a) ∨ (q = s ∧ x = b) → ∀ u, Below M w1 u → Calls Tryz.prog 15 #[.int .i64 q, .int .i64 k, .pointer (some ⟨F, 0, none⟩), .pointer (some ⟨B, 0, none⟩)] u fun e w' => e = .returned (.int .i64 x) ∧ w' = u) := fun q x hq u hu => by
               rcases hq with ⟨rfl, rfl⟩ | ⟨rfl, rfl⟩
               · rw [← HA.out]; exact bitJ_any (HX.out.at hu) (t : Int) k htf.1 (by omega) ha0 ha1 (by omega)
               · rw [← HB.out]; exact bitJ_any (HX.out.at hu) q k hsf.1 (by omega) ha0 ha1 (by omega)
             clear HP
             go_upto_region 69 with fail
             rw [HNV.out]
             generalize wr.setCell ⟨M, 0, none⟩ (.int .i64 nv) = w6 at *
             clear c0 f0 wnv y3
             have hbd : Below w6.heap.size w6 w6.drew := (Below.refl _ w6).drew
             have HPD := hide (HP6.out.later hbd)
             have dd : w6.drew.cell? ⟨M, 0, none⟩ = some (.int .i64 nv) := cell_later hbd d0
             go_region_held3 (fun w' => w'.cell? ⟨M, 0, none⟩ = some (.int .i64 nv))
               (first | exact d7 | exact dd | exact d0 | exact past1 dd _ | go_keep)
               (first
                 | (go_at_call 14; refine (addPs_any HPD.out hll [-nv, a, b] 3 (.cells #[.int .i64 (-nv), .int .i64 a, .int .i64 b] 3) (ints_three (-nv) a b)).mono ?_; rintro e w7 ⟨rfl, hp7⟩; have HP7 := hide hp7; obtain ⟨v7, rs7, _, hc7, _⟩ := hp7; have d7 := hc7.c0)
                 | (go_at_call 15; refine (HBI.out _ _ (by first | exact Or.inl ⟨rfl, rfl⟩ | exact Or.inr ⟨rfl, rfl⟩) _ HPD.out.sc.bel).mono ?_; rintro e wu ⟨rfl, rfl⟩))
             all_goals
               rename_i hHeld
               clear hHeld HPD HP6 hbd dd d0
               have hll2 : (LJ ++ DK k ++ [[-nv, a, b]]).length ≤ 1000000000 := by rw [List.length_append, List.length_append, HDL.out]; simp only [List.length_cons, List.length_nil]; omega
               have hbd : Below w7.heap.size w7 w7.drew := (Below.refl _ w7).drew
               have HPD := hide (HP7.out.later hbd)
               have dd : w7.drew.cell? ⟨M, 0, none⟩ = some (.int .i64 nv) := cell_later hbd d7
               go_wp2
               go_region_held3 (fun w' => w'.cell? ⟨M, 0, none⟩ = some (.int .i64 nv))
                 (first | exact d8 | exact dd | exact d7 | exact past1 dd _ | go_keep)
                 (first
                   | (go_at_call 14; refine (addPs_any HPD.out hll2 [-nv, -a, -b] 3 (.cells #[.int .i64 (-nv), .int .i64 (-a), .int .i64 (-b)] 3) (ints_three (-nv) (-a) (-b))).mono ?_; rintro e w8 ⟨rfl, hp8⟩; have HP8 := hide hp8; obtain ⟨v8, rs8, _, hc8, _⟩ := hp8; have d8 := hc8.c0)
                   | (go_at_call 15; refine (HBI.out _ _ (by first | exact Or.inl ⟨rfl, rfl⟩ | exact Or.inr ⟨rfl, rfl⟩) _ HPD.out.sc.bel).mono ?_; rintro e wu ⟨rfl, rfl⟩))
             all_goals
               rename_i hHeld
               have hown8 : ∃ ps cs, u26 = .slice ps k cs ∧ w8.ownsRow w5.heap.size 3 1 (.slice ps k cs) k ((someV Vj k).map (Value.int .i64)) ∧ w5.heap.size ≤ w8.heap.size := by
                 obtain ⟨_, _, _, _, _, hsm, _, hwz⟩ := HP8.out
                 obtain ⟨ps, cs, e, _, _⟩ := owns_ints hsm.own
                 have ho := hsm.own
                 rw [someV_len] at e ho
                 exact ⟨ps, cs, e, e ▸ ho, hwz⟩
               obtain ⟨ps, cs, rfl, ho8, hwz8⟩ := hown8
               obtain ⟨p9, c9, w9, hrun9, ho9, hg9, hat9⟩ := own_append_at (y := nv) ho8 hwz8 (by omega)
               have hp9 := ps_push (p := p9) (c := c9) HP8.out (by rw [someV_len]; exact ho9) (by exact hg9) (by rw [someV_len]; exact hat9)
               rw [someV_len] at hp9
               have HP9 : Hid (Ps w1 w9 M (Vj + ((k + 1 : Nat) : Int)) (LJ ++ DK (k + 1)) w5 (.slice p9 (k + 1) c9) (someV Vj (k + 1))) := by
                 unfold Hid
                 rw [HSK.out, HDK.out, show Vj + ((k + 1 : Nat) : Int) = nv by have := HNV.out; omega]
                 simpa only [List.append_assoc, List.cons_append, List.nil_append] using hp9
               clear hHeld ho8 hwz8 ho9 hg9 hat9 hp9 HP8 HP7 HPD hbd dd d7 wa wb wn HBI
               go_wp2
               go_roundw
               case rel => exact ⟨k + 1, by omega, by go_num, HP9⟩
               case measure => simp [intOf]; omega
           · obtain rfl : k = n := by omega
             have hki : ¬ (k : Int) < (k : Int) := by omega
             obtain ⟨v7, rs7, hn7, hc7, hbm7, hsm7, hm7, hw7⟩ := HP.out
             obtain ⟨ps, cs, hu, hil, _⟩ := owns_ints hsm7.own
             have hap7 := hsm7.ap
             have hlt7 := hsm7.own.lt
             rw [someV_len] at hu
             subst hu
             have HAL := hide (bal (Below.refl wr.heap.size wr) (.cells #[.slice ps k cs] 25))
             obtain ⟨pv, cv, rfl, _⟩ := owns_rows hc7.row
             have hM7 := World.block_lt_of_cell? _ _ hc7.c1
             simp only at hM7
             have hsum : rs7.length + [(⟨ps, someV Vj k, cs⟩ : Row)].length ≤ 2000000000 := by
               have h1 : rs7.length = (LJ ++ DK k).length := by rw [← hn7, numsOf_len]
               rw [List.length_append, HDL.out] at h1
               simp only [List.length_cons, List.length_nil]
               omega
             have hap := sc_rows (w1 := w1) (p := some ⟨wr.heap.size, 0, none⟩) (cap := 1) (rs2 := [⟨ps, someV Vj k, cs⟩]) (hc7.below HAL.out) (hbm7.trans (HAL.out.mono (by omega))) hsum
               (fun _ => ⟨_, _, rfl, fun i hi => by
                 match i, hi with
                 | 0, _ => simp [go_sem, Row.v, someV_len]⟩) (fun r hr => by simp at hr; subst hr; exact hil.later HAL.out) (fun r hr a ha => by
                 simp at hr
                 subst hr
                 simp only at ha
                 have h1 := hap7 a.block (by subst ha; rfl)
                 have h2 := hlt7 a.block (by subst ha; rfl)
                 exact ⟨h1.1, fun e => h1.2.1 e, by simp; omega, by omega⟩)
             obtain ⟨p9, n9, c9, w9, hrun9, k1, kf, hsc9, hbm9⟩ := hap
             have HS9 : Hid (Sc w1 (w9.setCell ⟨M, 1, none⟩ (.slice p9 n9 c9)) M (V + ((cntP last t + (j + 1) : Nat) : Int) * C.s) (L ++ stepsL (rowsT C last V) t ++ rowT C last V t (j + 1))) := by
               unfold Hid
               rw [HPJ.out, ← List.append_assoc, HLJ.out, show V + ((cntP last t + (j + 1) : Nat) : Int) * C.s = Vj + (k : Int) from HVJ.out]
               have h9 := hsc9
               rw [hn7] at h9
               simpa only [List.append_assoc, numsOf, List.map_cons, List.map_nil] using h9
             have m1 := hc7.c1
             clear hsc9 hbm9 hc7 hn7 hbm7 hil hsm7 hap7 hlt7 HP
             simp only [List.length_cons, List.length_nil, Nat.zero_add] at hrun9
             go_upto_region 63 with fail
             generalize w9.setCell ⟨M, 1, none⟩ (.slice p9 n9 c9) = wz at *
             clear hrun9 k1 kf m1 y3
             go_wp2
             go_roundw
             case rel => exact ⟨j + 1, s + 1, by omega, by unfold Hid AtU; rw [HSS.out]; omega, by go_num, HS9⟩
             case measure => simp [intOf]; omega
       · obtain rfl : j = last - t := by omega
         have hsl : ¬ s ≤ (last : Int) := by omega
         have HS9 : Hid (Sc w1 wr M (V + (cntP last (t + 1) : Int) * C.s) (L ++ stepsL (rowsT C last V) (t + 1))) := by unfold Hid; rw [HCS.out, HRS.out, ← List.append_assoc]; exact HR2.out
         clear HR2 hs2
         go_wp2
         go_roundw
         case rel => exact ⟨t + 1, by omega, by go_num, HS9⟩
         case measure => simp [intOf]; omega
   · obtain rfl : t = last + 1 := by omega
     have hnt : ¬ ((last + 1 : Nat) : Int) ≤ (last : Int) := by omega
     have HS9 : Hid (Sc w1 wr M (V + (cntP last (last + 1) : Int) * C.s) (L ++ diffL C last V)) := HR.out
     go_wp2
     go_meet
     exact HS9
end
end Go.Proofs.YtmambfdimeeijaaGreatDoor
