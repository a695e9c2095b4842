/- Steps, unrolled: the law's walk. -/
import Derived.Test.YtjhkecnnhddhbaaGreatDoorTmM
import Derived.Test.YtjhkecnnhddhbaaGreatDoorBdM
import Derived.Test.YtjhkecnnhddhbaaGreatDoorNj
namespace Go.Proofs.YtjhkecnnhddhbaaGreatDoor
open Go.RowKit Go.Maps Go.WideMaps
set_option maxRecDepth 100000
theorem ofV_no {e x : Int} (h : e ≠ 0) : ofV e x = 0 := by unfold ofV; rw [if_neg h]
theorem ofL_no {e : Int} {L : List (List Int)} (h : e ≠ 0) : ofL e L = [] := by unfold ofL; rw [if_neg h]
theorem short_of {rs : List Row} {L : List (List Int)} (h : numsOf rs = L) (hL : ∀ c ∈ L, c.length ≤ 2000000) : ∀ r ∈ rs, r.ns.length ≤ maxLen := fun r hr => by
 have := hL r.ns (by rw [← h]; exact List.mem_map_of_mem hr)
 unfold maxLen
 omega
theorem len_of {rs : List Row} {L : List (List Int)} (h : numsOf rs = L) (hL : L.length ≤ 200000000) : rs.length ≤ 200000000 := by
 rw [← numsOf_len, h]; exact hL
set_option maxHeartbeats 16000000 in
theorem unroll_walk (C : Ci) (steps : Int) (begun : Bool) (w : World) (hC : CIn w C) : Calls Tryz.prog 3 #[C.v, .int .i64 steps, .bool begun] w fun e w' => e = .returned (.bool true) ∧ Below w.heap.size w w' := by
 have hb1 : Below w.heap.size w (w.alloc (.cells #[.int .i64 C.ins, .slice C.p C.ps.length C.cap, .int .i64 C.a, .int .i64 C.s, C.i.v, C.n.v, C.b.v, C.h.v] 27)) := bal (Below.refl _ _) _
 have x0 : (w.alloc (.cells #[.int .i64 C.ins, .slice C.p C.ps.length C.cap, .int .i64 C.a, .int .i64 C.s, C.i.v, C.n.v, C.b.v, C.h.v] 27)).cell? ⟨w.heap.size, 0, none⟩ = some (.int .i64 C.ins) := by simp [go_sem]
 have x1 : (w.alloc (.cells #[.int .i64 C.ins, .slice C.p C.ps.length C.cap, .int .i64 C.a, .int .i64 C.s, C.i.v, C.n.v, C.b.v, C.h.v] 27)).cell? ⟨w.heap.size, 1, none⟩ = some (.slice C.p C.ps.length C.cap) := by simp [go_sem]
 have x2 : (w.alloc (.cells #[.int .i64 C.ins, .slice C.p C.ps.length C.cap, .int .i64 C.a, .int .i64 C.s, C.i.v, C.n.v, C.b.v, C.h.v] 27)).cell? ⟨w.heap.size, 2, none⟩ = some (.int .i64 C.a) := by simp [go_sem]
 have x3 : (w.alloc (.cells #[.int .i64 C.ins, .slice C.p C.ps.length C.cap, .int .i64 C.a, .int .i64 C.s, C.i.v, C.n.v, C.b.v, C.h.v] 27)).cell? ⟨w.heap.size, 3, none⟩ = some (.int .i64 C.s) := by simp [go_sem]
 have x4 : (w.alloc (.cells #[.int .i64 C.ins, .slice C.p C.ps.length C.cap, .int .i64 C.a, .int .i64 C.s, C.i.v, C.n.v, C.b.v, C.h.v] 27)).cell? ⟨w.heap.size, 4, none⟩ = some C.i.v := by simp [go_sem]
 have x5 : (w.alloc (.cells #[.int .i64 C.ins, .slice C.p C.ps.length C.cap, .int .i64 C.a, .int .i64 C.s, C.i.v, C.n.v, C.b.v, C.h.v] 27)).cell? ⟨w.heap.size, 5, none⟩ = some C.n.v := by simp [go_sem]
 have x6 : (w.alloc (.cells #[.int .i64 C.ins, .slice C.p C.ps.length C.cap, .int .i64 C.a, .int .i64 C.s, C.i.v, C.n.v, C.b.v, C.h.v] 27)).cell? ⟨w.heap.size, 6, none⟩ = some C.b.v := by simp [go_sem]
 have x7 : (w.alloc (.cells #[.int .i64 C.ins, .slice C.p C.ps.length C.cap, .int .i64 C.a, .int .i64 C.s, C.i.v, C.n.v, C.b.v, C.h.v] 27)).cell? ⟨w.heap.size, 7, none⟩ = some C.h.v := by simp [go_sem]
 have HB1 := hide hb1
 have HIN := hide (hC.later hb1)
 have HUN := hide (clausesU_any C steps begun _ HIN.out)
 have HCK := hide (fun u (h : CIn u C) => checkSteps_any C steps begun u h)
 have HST := hide (fun last u (h : COk u C last) hb => stepC_any C last begun u h hb)
 have HCI := hide hC
 clear hb1 hC
 unfold Ci.v circ at HUN HCK HST ⊢
 simp only [Sl.v] at *
 go_enter Tryz.func3, Tryz.ntmps3
 go_wp2_with fail
 generalize w.alloc (.cells #[.int .i64 C.ins, .slice C.p C.ps.length C.cap, .int .i64 C.a, .int .i64 C.s, .slice C.i.at' C.i.ns.length C.i.cap, .slice C.n.at' C.n.ns.length C.n.cap, .slice C.b.at' C.b.ns.length C.b.cap, .slice C.h.at' C.h.ns.length C.h.cap] 27) = w1 at *
 refine HUN.out.mono ?_
 rintro e w2 ⟨pv, cv, rws, rfl, hn, hcl, hb2⟩
 have HN := hide hn
 clear HUN hn
 unfold cval
 have hbA : Below w1.heap.size w1 (w2.alloc (.cells #[.int .i64 (ofV (unE C steps begun) ((steps + 1) * C.f)), .slice pv rws.length cv] 30)) := bal hb2 _
 have HB2 := hide (bthen HB1.out hbA)
 have HIN2 := hide (HIN.out.later hbA)
 have z0 := cell_later hbA x0
 have z1 := cell_later hbA x1
 have z2 := cell_later hbA x2
 have z3 := cell_later hbA x3
 have z4 := cell_later hbA x4
 have z5 := cell_later hbA x5
 have z6 := cell_later hbA x6
 have z7 := cell_later hbA x7
 have HCL := hide (hcl.later (bal (Below.refl _ _) (.cells #[.int .i64 (ofV (unE C steps begun) ((steps + 1) * C.f)), .slice pv rws.length cv] 30)))
 obtain ⟨X, hX⟩ : ∃ X, Hid (w2.heap.size = X) := ⟨_, rfl⟩
 have a0 : (w2.alloc (.cells #[.int .i64 (ofV (unE C steps begun) ((steps + 1) * C.f)), .slice pv rws.length cv] 30)).cell? ⟨w2.heap.size, 0, none⟩ = some (.int .i64 (ofV (unE C steps begun) ((steps + 1) * C.f))) := by simp [go_sem]
 have a1 : (w2.alloc (.cells #[.int .i64 (ofV (unE C steps begun) ((steps + 1) * C.f)), .slice pv rws.length cv] 30)).cell? ⟨w2.heap.size, 1, none⟩ = some (.slice pv rws.length cv) := by simp [go_sem]
 clear x0 x1 x2 x3 x4 x5 x6 x7 hcl hbA hb2 HIN
 go_wp2_with fail
 generalize hw3 : w2.alloc (.cells #[.int .i64 (ofV (unE C steps begun) ((steps + 1) * C.f)), .slice pv rws.length cv] 30) = w3 at *
 refine (HCK.out _ HIN2.out).mono ?_
 rintro e w4 ⟨rfl, hb4⟩
 have hbB : Below w3.heap.size w3 (w4.alloc (.cells #[.int .i64 0, .slice none 0 0] 30)) := bal hb4 _
 have HBB := hide hbB
 have HIN4 := hide (HIN2.out.later hbB)
 have q0 := cell_later hbB z0
 have q1 := cell_later hbB z1
 have q2 := cell_later hbB z2
 have q3 := cell_later hbB z3
 have q4 := cell_later hbB z4
 have q5 := cell_later hbB z5
 have q6 := cell_later hbB z6
 have q7 := cell_later hbB z7
 have b0 := cell_later hbB a0
 have b1 := cell_later hbB a1
 have HY := hide (r30 (alloc_at (w := w4) (o := .cells #[.int .i64 0, .slice none 0 0] 30) rfl))
 obtain ⟨g0, g1, f0, f1⟩ := HY.out.1
 have hY3 : w3.heap.size ≤ w4.heap.size := hb4.size
 have HG5 : Hid ((w4.alloc (.cells #[.int .i64 0, .slice none 0 0] 30)).heap[w4.heap.size]? = some (.cells #[.int .i64 0, .slice none 0 0] 30)) := alloc_at (w := w4) (o := .cells #[.int .i64 0, .slice none 0 0] 30) rfl
 have HA := hide (And.intro a0 a1)
 have h45 : w4.heap.size < (w4.alloc (.cells #[.int .i64 0, .slice none 0 0] 30)).heap.size := by simp
 clear z0 z1 z2 z3 z4 z5 z6 z7 a0 a1 hb4 hbB HCK hw3 HIN2
 obtain ⟨E, HE⟩ : ∃ E, Hid (unE C steps begun = E) := ⟨_, rfl⟩
 rw [HE.out] at HN b0 HA ⊢
 by_cases hck : ckE C steps begun = 0
 · obtain ⟨h0, hs, hbg⟩ := ck_zero hck
   have hCO := co_of HIN4.out h0 steps.toNat (by omega)
   have hEE := un_zero HCI.out hck
   rw [HE.out] at hEE
   rw [hck]
   have hst : ((steps.toNat : Nat) : Int) = steps := by omega
   have hlf := hCO.lf
   have hf0 := hCO.f0
   have hi0 := hCO.i0
   have hi1 := hCO.i1
   have hp1 := hCO.p1
   have hni := hCO.ni
   have hfe : C.ins + (C.ps.length : Int) = C.f := rfl
   have hVv : (steps + 1) * C.f = (steps.toNat : Int) * C.f + C.f := by rw [hst, Int.add_mul]; omega
   have hVc : (C.ins + (C.ps.length : Int)) * (steps + 1) = (steps + 1) * C.f := Int.mul_comm _ _
   have wf := wrap_id (x := C.ins + (C.ps.length : Int)) (by omega) (by omega)
   have ws := wrap_id (x := steps + 1) (by omega) (by omega)
   have wv := wrap_id (x := (C.ins + (C.ps.length : Int)) * (steps + 1)) (by rw [hVc]; omega) (by rw [hVc]; omega)
   by_cases hbig : 200000 < (steps + 1) * C.f
   · have hbg2 : (200000 : Int) < (C.ins + (C.ps.length : Int)) * (steps + 1) := by rw [hVc]; exact hbig
     rw [if_pos hbig] at hEE
     subst hEE
     have HNO : Hid (ofV 3 ((steps + 1) * C.f) = 0 ∧ numsOf rws = []) := ⟨ofV_no (by decide), by rw [HN.out, ofL_no (by decide)]⟩
     clear HE HN hck HST hCO hst hlf hVv hVc hbig hfe hni hbg
     generalize ofV 3 ((steps + 1) * C.f) = V1 at *
     go_wp2_with fail
     generalize w4.alloc (.cells #[.int .i64 0, .slice none 0 0] 30) = w5 at *
     refine (Sr.unrollBegun_any w5).mono ?_
     rintro e w6 ⟨rfl, hb6⟩
     have c0 := cell_later hb6 b0
     have c1 := cell_later hb6 b1
     have d0 := cell_later hb6 g0
     have d1 := cell_later hb6 g1
     have HCLf := hide ((HCL.out.later HBB.out).later hb6)
     have HBF := hide (bthen (bthen HB2.out HBB.out) hb6)
     clear b0 b1 g0 g1 f0 f1 hb6 q0 q1 q2 q3 q4 q5 q6 q7
     go_wp2_with fail
     refine (are_any 3 V1 0 pv none cv 0 rws [] (Nat.le_trans (len_of HNO.out.2 (by simp)) (by decide)) (by simp) (short_of HNO.out.2 (fun _ h => by cases h)) (fun _ h => by cases h) (fun _ => HNO.out) (fun h => absurd h (by decide)) w6 HCLf.out (clAt_nil _)).mono ?_
     rintro e w7 ⟨rfl, hb7⟩
     have HBG := hide (bthen HBF.out hb7)
     clear hb7
     go_wp2
     go_ret
     exact ⟨rfl, HBG.out⟩
   · have hbg2 : ¬ (200000 : Int) < (C.ins + (C.ps.length : Int)) * (steps + 1) := by rw [hVc]; exact hbig
     rw [if_neg hbig] at hEE
     have hCOk : COk (w4.alloc (.cells #[.int .i64 0, .slice none 0 0] 30)) C steps.toNat := ⟨hCO, by rw [hst]; omega⟩
     have HSC := hide (HST.out steps.toNat _ hCOk (fun hb x hx => by have := hbg hb x hx; have := hni x hx; omega))
     have HLN := hide (stepL_le hCOk begun)
     have HSH : Hid (∀ c ∈ stepL C steps.toNat begun, c.length ≤ 2000000) := fun c hc => stepL_short hCO hc
     rw [hst] at HSC
     clear HE hck HST hCO hst hlf hVv hVc hbig hfe hni hbg hCOk hf0 hi0 hi1 hp1
     generalize stepL C steps.toNat begun = L at *
     have HEE := hide hEE
     clear hEE
     go_wp2_with fail
     generalize w4.alloc (.cells #[.int .i64 0, .slice none 0 0] 30) = w5 at *
     refine HSC.out.mono ?_
     rintro e w6 ⟨p2, c2, rs2, rfl, hn2, hcl2, hb6, hp2, hr2⟩
     have HN2 := hide hn2
     have HCL2 := hide hcl2
     have HB6 := hide hb6
     have HFP : Hid (∀ a, p2 = some a → a.block ≠ w4.heap.size) := fun a ha => by have := hp2 a ha; omega
     have HFR : Hid (∀ r ∈ rs2, ∀ a, r.at' = some a → a.block ≠ w4.heap.size) := fun r h a ha => by have := hr2 r h a ha; omega
     have HL2 := hide (len_of hn2 HLN.out)
     have HS2 := hide (short_of hn2 HSH.out)
     have hEE := HEE.out
     rw [← hn2] at hEE
     clear HEE
     clear hn2 hcl2 hb6 hp2 hr2 HSC b0 b1 g0 g1 f0 f1 q0 q1 q2 q3 q4 q5 q6 q7
     by_cases hch : chkC ((steps + 1) * C.f) (numsOf rs2) = 0
     · rw [hch] at hEE
       subst hEE
       have HNY : Hid (ofV 0 ((steps + 1) * C.f) = (steps + 1) * C.f ∧ numsOf rws = numsOf rs2) := ⟨rfl, by rw [HN.out, HN2.out]; rfl⟩
       have HDN := hide (doneC_ok ((steps + 1) * C.f) p2 c2 rs2 (Nat.le_trans HL2.out (by decide)) HS2.out hch w6 HCL2.out)
       clear hch HN
       rw [HNY.out.1] at HA
       generalize (steps + 1) * C.f = V at *
       unfold cval at *
       go_wp2_with fail
       refine HDN.out.mono ?_
       rintro e w7 ⟨rfl, hb7⟩
       have hb57 := bthen HB6.out hb7
       have HCL7 := hide (HCL2.out.later hb7)
       clear hb7 HDN
       have HR7 := hide (r30 ((hb57.block _ h45).trans HG5.out))
       obtain ⟨g0, g1, f0, f1⟩ := HR7.out.1
       have HG8 : Hid (((w7.setCell ⟨w4.heap.size, 0, none⟩ (.int .i64 V)).setCell ⟨w4.heap.size, 1, none⟩ (.slice p2 rs2.length c2)).heap[w4.heap.size]? = some (.cells #[.int .i64 V, .slice p2 rs2.length c2] 30)) := HR7.out.2 _ _
       have HB8 : Hid (Below w3.heap.size w3 ((w7.setCell ⟨w4.heap.size, 0, none⟩ (.int .i64 V)).setCell ⟨w4.heap.size, 1, none⟩ (.slice p2 rs2.length c2))) := ((bthen HBB.out hb57).setCell (p := ⟨w4.heap.size, 0, none⟩) hY3 _).setCell (p := ⟨w4.heap.size, 1, none⟩) hY3 _
       have HCL8 := hide (HCL.out.later HB8.out)
       have HCL9 : Hid (ClAt ((w7.setCell ⟨w4.heap.size, 0, none⟩ (.int .i64 V)).setCell ⟨w4.heap.size, 1, none⟩ (.slice p2 rs2.length c2)) p2 rs2) := clAt_set (clAt_set HCL7.out HFP.out HFR.out) HFP.out HFR.out
       go_upto_region 7 with fail
       generalize (w7.setCell ⟨w4.heap.size, 0, none⟩ (.int .i64 V)).setCell ⟨w4.heap.size, 1, none⟩ (.slice p2 rs2.length c2) = w8 at *
       have k0 := cell_later HB8.out HA.out.1
       have k1 := cell_later HB8.out HA.out.2
       have m0 : w8.cell? ⟨w4.heap.size, 0, none⟩ = some (.int .i64 V) := by rw [Lib.cell_of_heap HG8.out]; rfl
       have m1 : w8.cell? ⟨w4.heap.size, 1, none⟩ = some (.slice p2 rs2.length c2) := by rw [Lib.cell_of_heap HG8.out]; rfl
       clear g0 g1 f0 f1 hb57 HR7 HG8
       go_wp2_with fail
       refine (Sr.unrollBegun_any w8).mono ?_
       rintro e w9 ⟨rfl, hb9⟩
       have c0 := cell_later hb9 k0
       have c1 := cell_later hb9 k1
       have d0 := cell_later hb9 m0
       have d1 := cell_later hb9 m1
       have HCLf := hide (HCL8.out.later hb9)
       have HCLg := hide (HCL9.out.later hb9)
       have HBF := hide (bthen (bthen HB2.out HB8.out) hb9)
       clear hb9 k0 k1 m0 m1 HCL8 HCL9
       go_wp2_with fail
       refine (are_any 0 V V pv p2 cv c2 rws rs2 (Nat.le_trans (len_of (HNY.out.2.trans HN2.out) HLN.out) (by decide)) (Nat.le_trans HL2.out (by decide)) (short_of (HNY.out.2.trans HN2.out) HSH.out) HS2.out (fun h => absurd rfl h) (fun _ => ⟨rfl, HNY.out.2⟩) w9 HCLf.out HCLg.out).mono ?_
       rintro e w10 ⟨rfl, hb10⟩
       have HBG := hide (bthen HBF.out hb10)
       clear hb10
       go_wp2
       go_ret
       exact ⟨rfl, HBG.out⟩
     · have HNO : Hid (ofV E ((steps + 1) * C.f) = 0 ∧ numsOf rws = []) := ⟨ofV_no (by rw [hEE]; exact hch), by rw [HN.out, ofL_no (by rw [hEE]; exact hch)]⟩
       have HDN := hide (doneC_no ((steps + 1) * C.f) p2 c2 rs2 (Nat.le_trans HL2.out (by decide)) HS2.out hch w6 HCL2.out)
       rw [← hEE] at HDN hch
       have HE0 := hide hch
       clear hch HN hEE
       generalize ofV E ((steps + 1) * C.f) = V1 at *
       generalize (steps + 1) * C.f = V at *
       unfold cval at *
       go_wp2_with fail
       refine HDN.out.mono ?_
       rintro e w7 ⟨rfl, hb7⟩
       have hb57 := bthen HB6.out hb7
       clear hb7 HDN
       have HR7 := hide (r30 ((hb57.block _ h45).trans HG5.out))
       obtain ⟨g0, g1, f0, f1⟩ := HR7.out.1
       have HG8 : Hid (((w7.setCell ⟨w4.heap.size, 0, none⟩ (.int .i64 0)).setCell ⟨w4.heap.size, 1, none⟩ (.slice none 0 0)).heap[w4.heap.size]? = some (.cells #[.int .i64 0, .slice none 0 0] 30)) := HR7.out.2 _ _
       have HB8 : Hid (Below w3.heap.size w3 ((w7.setCell ⟨w4.heap.size, 0, none⟩ (.int .i64 0)).setCell ⟨w4.heap.size, 1, none⟩ (.slice none 0 0))) := ((bthen HBB.out hb57).setCell (p := ⟨w4.heap.size, 0, none⟩) hY3 _).setCell (p := ⟨w4.heap.size, 1, none⟩) hY3 _
       have HCL8 := hide (HCL.out.later HB8.out)
       have HCL9 : Hid (ClAt ((w7.setCell ⟨w4.heap.size, 0, none⟩ (.int .i64 0)).setCell ⟨w4.heap.size, 1, none⟩ (.slice none 0 0)) none []) := clAt_nil _
       go_upto_region 7 with fail
       generalize (w7.setCell ⟨w4.heap.size, 0, none⟩ (.int .i64 0)).setCell ⟨w4.heap.size, 1, none⟩ (.slice none 0 0) = w8 at *
       have k0 := cell_later HB8.out HA.out.1
       have k1 := cell_later HB8.out HA.out.2
       have m0 : w8.cell? ⟨w4.heap.size, 0, none⟩ = some (.int .i64 0) := by rw [Lib.cell_of_heap HG8.out]; rfl
       have m1 : w8.cell? ⟨w4.heap.size, 1, none⟩ = some (.slice none 0 0) := by rw [Lib.cell_of_heap HG8.out]; rfl
       clear g0 g1 f0 f1 hb57 HR7 HG8
       go_wp2_with fail
       refine (Sr.unrollBegun_any w8).mono ?_
       rintro e w9 ⟨rfl, hb9⟩
       have c0 := cell_later hb9 k0
       have c1 := cell_later hb9 k1
       have d0 := cell_later hb9 m0
       have d1 := cell_later hb9 m1
       have HCLf := hide (HCL8.out.later hb9)
       have HCLg := hide (HCL9.out.later hb9)
       have HBF := hide (bthen (bthen HB2.out HB8.out) hb9)
       clear hb9 k0 k1 m0 m1 HCL8 HCL9
       go_wp2_with fail
       refine (are_any E V1 0 pv none cv 0 rws [] (Nat.le_trans (len_of HNO.out.2 (by simp)) (by decide)) (by simp) (short_of HNO.out.2 (fun _ h => by cases h)) (fun _ h => by cases h) (fun _ => HNO.out) (fun h => absurd h HE0.out) w9 HCLf.out HCLg.out).mono ?_
       rintro e w10 ⟨rfl, hb10⟩
       have HBG := hide (bthen HBF.out hb10)
       clear hb10
       go_wp2
       go_ret
       exact ⟨rfl, HBG.out⟩
 · have hckb : (ckE C steps begun == 0) = false := by simpa using hck
   have HEC : Hid (E = ckE C steps begun) := by unfold Hid; rw [← HE.out]; exact un_ck HCI.out hck
   have hE0 : E ≠ 0 := by rw [HEC.out]; exact hck
   have HNO : Hid (ofV E ((steps + 1) * C.f) = 0 ∧ numsOf rws = []) := ⟨ofV_no hE0, by rw [HN.out, ofL_no hE0]⟩
   rw [← HEC.out] at hckb ⊢
   have hE0b := hide hE0
   clear HE HN hck hE0 HST
   generalize ofV E ((steps + 1) * C.f) = V1 at *
   go_wp2_with fail
   generalize w4.alloc (.cells #[.int .i64 0, .slice none 0 0] 30) = w5 at *
   refine (Sr.unrollBegun_any w5).mono ?_
   rintro e w6 ⟨rfl, hb6⟩
   have c0 := cell_later hb6 b0
   have c1 := cell_later hb6 b1
   have d0 := cell_later hb6 g0
   have d1 := cell_later hb6 g1
   have HCLf := hide ((HCL.out.later HBB.out).later hb6)
   have HBF := hide (bthen (bthen HB2.out HBB.out) hb6)
   clear b0 b1 g0 g1 f0 f1 hb6 q0 q1 q2 q3 q4 q5 q6 q7
   go_wp2_with fail
   refine (are_any E V1 0 pv none cv 0 rws [] (Nat.le_trans (len_of HNO.out.2 (by simp)) (by decide)) (by simp) (short_of HNO.out.2 (fun _ h => by cases h)) (fun _ h => by cases h) (fun _ => HNO.out) (fun h => absurd h hE0b.out) w6 HCLf.out (clAt_nil _)).mono ?_
   rintro e w7 ⟨rfl, hb7⟩
   have HBG := hide (bthen HBF.out hb7)
   clear hb7
   go_wp2
   go_ret
   exact ⟨rfl, HBG.out⟩
end Go.Proofs.YtjhkecnnhddhbaaGreatDoor
