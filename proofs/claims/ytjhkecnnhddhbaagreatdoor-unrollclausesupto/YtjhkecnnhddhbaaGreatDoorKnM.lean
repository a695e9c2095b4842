/- Steps, unrolled: the part of Ands. -/
import Derived.Test.YtjhkecnnhddhbaaGreatDoorKjM
import Derived.Deep.CutRange
import Derived.Test.YtjhkecnnhddhbaaGreatDoorKk
namespace Go.Proofs.YtjhkecnnhddhbaaGreatDoor
open Go.RowKit Go.Maps Go.WideMaps
set_option maxRecDepth 100000
structure Fp (w W : World) (M : Nat) (C : Ci) (last P S A : Nat) (Z : Int) : Prop where
 b : Below w.heap.size w W
 x0 : W.cell? ⟨w.heap.size, 0, none⟩ = some (.pointer (some ⟨M, 0, none⟩))
 x2 : W.cell? ⟨w.heap.size + 1 + 1, 0, none⟩ = some (.int .i64 C.ins)
 x3 : W.cell? ⟨w.heap.size + 1 + 1, 1, none⟩ = some (.slice C.p C.ps.length C.cap)
 g1 : W.heap[w.heap.size + 1]? = some (.cells #[.int .i64 0, .int .i64 0, .nilFunc] 45)
 un : UnC W M C last
 s : W.cell? ⟨S, 0, none⟩ = some (.int .i64 ((last : Int) + 1))
 a : W.cell? ⟨A, 0, none⟩ = some (.func (.func 35) #[] #[.pointer (some ⟨w.heap.size, 0, none⟩), .pointer (some ⟨w.heap.size + 1 + 1, 0, none⟩)])
 p : W.heap[P]? = some (.cells #[.int .i64 0, .int .i64 Z, .func (.func 65) #[] #[.pointer (some ⟨S, 0, none⟩), .pointer (some ⟨A, 0, none⟩)]] 45)
 hs : w.heap.size + 3 ≤ S
 ha : w.heap.size + 3 ≤ A
 hp : w.heap.size + 3 ≤ P
 ps : P ≠ S
 pa : P ≠ A
structure Fq (w w3 : World) (M : Nat) (C : Ci) (last : Nat) : Prop where
 b : Below w.heap.size w w3
 x0 : w3.cell? ⟨w.heap.size, 0, none⟩ = some (.pointer (some ⟨M, 0, none⟩))
 x2 : w3.cell? ⟨w.heap.size + 1 + 1, 0, none⟩ = some (.int .i64 C.ins)
 x3 : w3.cell? ⟨w.heap.size + 1 + 1, 1, none⟩ = some (.slice C.p C.ps.length C.cap)
 g1 : w3.heap[w.heap.size + 1]? = some (.cells #[.int .i64 0, .int .i64 0, .nilFunc] 45)
 un : UnC w3 M C last
 hs : w3.heap.size = w.heap.size + 3
theorem fp_alloc {w w3 w5 : World} {M : Nat} {C : Ci} {last S A : Nat} {Z : Int} (h : Fq w w3 M C last) (hb5 : Below w3.heap.size w3 w5) (e1 : w5.cell? ⟨S, 0, none⟩ = some (.int .i64 ((last : Int) + 1)))
   (e2 : w5.cell? ⟨A, 0, none⟩ = some (.func (.func 35) #[] #[.pointer (some ⟨w.heap.size, 0, none⟩), .pointer (some ⟨w.heap.size + 1 + 1, 0, none⟩)])) (hS : w3.heap.size ≤ S) (hA : w3.heap.size ≤ A) :
   Fp w (w5.alloc (.cells #[.int .i64 0, .int .i64 Z, .func (.func 65) #[] #[.pointer (some ⟨S, 0, none⟩), .pointer (some ⟨A, 0, none⟩)]] 45)) M C last w5.heap.size S A Z := by
 have hs := h.hs
 have hz := hb5.size
 have h1 := World.block_lt_of_cell? _ _ e1
 have h2 := World.block_lt_of_cell? _ _ e2
 simp only at h1 h2
 have hb6 : Below w5.heap.size w5 (w5.alloc (.cells #[.int .i64 0, .int .i64 Z, .func (.func 65) #[] #[.pointer (some ⟨S, 0, none⟩), .pointer (some ⟨A, 0, none⟩)]] 45)) := bal (Below.refl _ _) _
 have hb : Below w3.heap.size w3 (w5.alloc (.cells #[.int .i64 0, .int .i64 Z, .func (.func 65) #[] #[.pointer (some ⟨S, 0, none⟩), .pointer (some ⟨A, 0, none⟩)]] 45)) := bthen hb5 hb6
 exact ⟨bthen h.b hb, cell_later hb h.x0, cell_later hb h.x2, cell_later hb h.x3, (hb.block _ (by omega)).trans h.g1, h.un.later hb, cell_later hb6 e1, cell_later hb6 e2, alloc_at rfl, by omega, by omega, by omega, by omega, by omega⟩
theorem fp_set {w w3 w5 : World} {M : Nat} {C : Ci} {last : Nat} {Z : Int} (h : Fq w w3 M C last) (hb5 : Below w3.heap.size w3 w5) (e1 : w5.cell? ⟨w3.heap.size + 1, 0, none⟩ = some (.int .i64 ((last : Int) + 1)))
   (e2 : w5.cell? ⟨w3.heap.size + 1 + 1, 0, none⟩ = some (.func (.func 35) #[] #[.pointer (some ⟨w.heap.size, 0, none⟩), .pointer (some ⟨w.heap.size + 1 + 1, 0, none⟩)]))
   (hg : w5.heap[w3.heap.size]? = some (.cells #[.int .i64 0, .int .i64 0, .nilFunc] 45)) :
   Fp w (set3 w5 w3.heap.size (.int .i64 0) (.int .i64 Z) (.func (.func 65) #[] #[.pointer (some ⟨w3.heap.size + 1, 0, none⟩), .pointer (some ⟨w3.heap.size + 1 + 1, 0, none⟩)])) M C last w3.heap.size (w3.heap.size + 1) (w3.heap.size + 1 + 1) Z := by
 have hs := h.hs
 have hz := hb5.size
 have hb : Below w3.heap.size w3 (set3 w5 w3.heap.size (.int .i64 0) (.int .i64 Z) (.func (.func 65) #[] #[.pointer (some ⟨w3.heap.size + 1, 0, none⟩), .pointer (some ⟨w3.heap.size + 1 + 1, 0, none⟩)])) := set3_below hb5 (Nat.le_refl _) _ _ _
 have hc : ∀ {q : Addr} {x : Value}, w5.cell? q = some x → q.block ≠ w3.heap.size → (set3 w5 w3.heap.size (.int .i64 0) (.int .i64 Z) (.func (.func 65) #[] #[.pointer (some ⟨w3.heap.size + 1, 0, none⟩), .pointer (some ⟨w3.heap.size + 1 + 1, 0, none⟩)])).cell? q = some x := fun hq hne => cell_set_far (cell_set_far (cell_set_far hq hne) hne) hne
 exact ⟨bthen h.b hb, cell_later hb h.x0, cell_later hb h.x2, cell_later hb h.x3, (hb.block _ (by omega)).trans h.g1, h.un.later hb, hc e1 (by simp), hc e2 (by simp; omega), (r45 hg).2 _ _ _, by omega, by omega, by omega, by omega, by omega⟩
set_option maxHeartbeats 8000000 in
theorem ands_any (w0 : World) (M : Nat) (C : Ci) (last : Nat) (hC : CO w0 C last) (w : World) (v : Value) (vars : Int) (rs : List Row) (hU : Un w0 w M v vars rs C last) :
   Calls Tryz.prog 12 #[.pointer (some ⟨M, 0, none⟩)] w (PtOut w0 w M v C last (((last + 1 : Nat) : Int) * C.f) ((last + 1) * (3 * C.ps.length) : Nat) (stepsL (fun t => andsT C t C.ps.length) (last + 1)) none) := by
 have hla := hC.la
 have hpl := hC.p1
 have HNW := hide (fun g (hg : w.heap.size ≤ g) => hU.new hg)
 have hMl := World.block_lt_of_cell? _ _ hU.cm.c0
 simp only at hMl
 have HMK := hide (fun U G S A cs (hv : ((last : Int) + 1) * C.f ≤ 200000) => ands_makes w0 M C last ⟨hC, hv⟩ U G S A cs)
 have hb2 : Below w.heap.size w ((w.alloc (.cells #[.pointer (some ⟨M, 0, none⟩)] 40)).alloc (.cells #[.int .i64 0, .int .i64 0, .nilFunc] 45)) := bal (bal (Below.refl _ _) _) _
 have hb3 : Below w.heap.size w (((w.alloc (.cells #[.pointer (some ⟨M, 0, none⟩)] 40)).alloc (.cells #[.int .i64 0, .int .i64 0, .nilFunc] 45)).alloc (.cells #[.int .i64 C.ins, .slice C.p C.ps.length C.cap] 24)) := bal (bal (bal (Below.refl _ _) _) _) _
 have u2 := cell_later hb2 hU.un.u2
 have u3 := cell_later hb2 hU.un.u3
 have HUC := hide (hU.un.later hb3)
 have y0 : (((w.alloc (.cells #[.pointer (some ⟨M, 0, none⟩)] 40)).alloc (.cells #[.int .i64 0, .int .i64 0, .nilFunc] 45)).alloc (.cells #[.int .i64 C.ins, .slice C.p C.ps.length C.cap] 24)).cell? ⟨w.heap.size, 0, none⟩ = some (.pointer (some ⟨M, 0, none⟩)) := by simp [go_sem]
 have y2 : (((w.alloc (.cells #[.pointer (some ⟨M, 0, none⟩)] 40)).alloc (.cells #[.int .i64 0, .int .i64 0, .nilFunc] 45)).alloc (.cells #[.int .i64 C.ins, .slice C.p C.ps.length C.cap] 24)).cell? ⟨w.heap.size + 1 + 1, 0, none⟩ = some (.int .i64 C.ins) := by simp [go_sem]
 have y3 : (((w.alloc (.cells #[.pointer (some ⟨M, 0, none⟩)] 40)).alloc (.cells #[.int .i64 0, .int .i64 0, .nilFunc] 45)).alloc (.cells #[.int .i64 C.ins, .slice C.p C.ps.length C.cap] 24)).cell? ⟨w.heap.size + 1 + 1, 1, none⟩ = some (.slice C.p C.ps.length C.cap) := by simp [go_sem]
 have HG : Hid ((((w.alloc (.cells #[.pointer (some ⟨M, 0, none⟩)] 40)).alloc (.cells #[.int .i64 0, .int .i64 0, .nilFunc] 45)).alloc (.cells #[.int .i64 C.ins, .slice C.p C.ps.length C.cap] 24)).heap[w.heap.size + 1]? = some (.cells #[.int .i64 0, .int .i64 0, .nilFunc] 45)) := ((bal (Below.refl _ ((w.alloc (.cells #[.pointer (some ⟨M, 0, none⟩)] 40)).alloc (.cells #[.int .i64 0, .int .i64 0, .nilFunc] 45))) (.cells #[.int .i64 C.ins, .slice C.p C.ps.length C.cap] 24)).block (w.heap.size + 1) (by simp)).trans (alloc_at (by simp))
 have HB3 := hide hb3
 have hs3 : (((w.alloc (.cells #[.pointer (some ⟨M, 0, none⟩)] 40)).alloc (.cells #[.int .i64 0, .int .i64 0, .nilFunc] 45)).alloc (.cells #[.int .i64 C.ins, .slice C.p C.ps.length C.cap] 24)).heap.size = w.heap.size + 3 := by simp
 have hi0 := hC.i0
 have hi1 := hC.i1
 have HST := hide (fun w => stride_any C.ins C.p C.ps.length C.cap hC.i0 hC.i1 (by omega) (.int .i64 C.a) (.int .i64 C.s) C.i.v C.n.v C.b.v C.h.v w)
 have hfl := hC.lf
 have hfe : C.f = C.ins + C.ps.length := rfl
 clear hC hU hb2 hb3
 simp only [Sl.v] at HST
 go_enter Tryz.func12, Tryz.ntmps12
 go_wp2_with fail
 generalize ((w.alloc (.cells #[.pointer (some ⟨M, 0, none⟩)] 40)).alloc (.cells #[.int .i64 0, .int .i64 0, .nilFunc] 45)).alloc (.cells #[.int .i64 C.ins, .slice C.p C.ps.length C.cap] 24) = w3 at *
 have y10 := HUC.out.u10
 clear u2 u3
 have wl := wrap_id (x := (last : Int) + 1) (by omega) (by omega)
 have w3l := wrap_id (x := 3 * (C.ps.length : Int)) (by omega) (by omega)
 have hbd : Below w3.heap.size w3 w3.drew := (Below.refl _ w3).drew
 have hbA : Below w3.heap.size w3 (w3.alloc (.cells #[.int .i64 0, .int .i64 0, .nilFunc] 45)).drew := (bal (Below.refl _ w3) _).drew
 have HES := hide (fun W => eachStep_any (last + 1) (by omega) (3 * C.ps.length) (by omega) 35 (.pointer (some ⟨w.heap.size, 0, none⟩)) (.pointer (some ⟨w.heap.size + 1 + 1, 0, none⟩)) W)
 generalize hZ : (last + 1) * (3 * C.ps.length) = Z at *
 have hc1 : ((last + 1 : Nat) : Int) = (last : Int) + 1 := by omega
 have hc3 : ((3 * C.ps.length : Nat) : Int) = 3 * (C.ps.length : Int) := by omega
 rw [hc1] at HES
 rw [hc3] at HES
 clear hc1 hc3
 have HQ := hide (show Fq w w3 M C last from ⟨HB3.out, y0, y2, y3, HG.out, HUC.out, hs3⟩)
 have hs3' : w.heap.size + 3 ≤ w3.heap.size := by omega
 clear hs3
 go_upto_region 2 with fail
 go_cut [4] from 10 to 20 (fun s wx => ∃ P S A, s = .pointer (some ⟨P, 0, none⟩) ∧ Hid (Fp w wx M C last P S A Z))
 case first =>
   go_region_held3 (fun w' => w'.cell? ⟨w.heap.size, 0, none⟩ = some (.pointer (some ⟨M, 0, none⟩)) ∧ w'.cell? ⟨w.heap.size + 1 + 1, 1, none⟩ = some (.slice C.p C.ps.length C.cap) ∧ w'.cell? ⟨M, 10, none⟩ = some (.int .i64 last))
     (first | exact ⟨cell_later hb5 y0, cell_later hb5 y3, cell_later hb5 y10⟩ | exact ⟨cell_later hbd y0, cell_later hbd y3, cell_later hbd y10⟩ | exact ⟨cell_later hbA y0, cell_later hbA y3, cell_later hbA y10⟩ | exact ⟨cell_later (bal hb5 _) y0, cell_later (bal hb5 _) y3, cell_later (bal hb5 _) y10⟩ | exact ⟨cell_set_far (cell_set_far (cell_set_far (cell_later hb5 y0) (by simp; omega)) (by simp; omega)) (by simp; omega), cell_set_far (cell_set_far (cell_set_far (cell_later hb5 y3) (by simp; omega)) (by simp; omega)) (by simp; omega), cell_set_far (cell_set_far (cell_set_far (cell_later hb5 y10) (by simp; omega)) (by simp; omega)) (by simp; omega)⟩ | go_keep)
     ((go_at_call 34; refine (HES.out _).mono ?_; rintro e w5 ⟨rfl, e1, e2, hb5'⟩
       first
         | (have hb5 : Below w3.heap.size w3 w5 := bthen hbA hb5'
            have hg5 := (hb5'.block w3.heap.size (by simp)).trans (alloc_at (w := w3) (o := .cells #[.int .i64 0, .int .i64 0, .nilFunc] 45) rfl)
            have HR := hide (r45 hg5)
            obtain ⟨q0, q1, q2, f0, f1, f2⟩ := HR.out.1)
         | (have hb5 : Below w3.heap.size w3 w5 := bthen hbd hb5')))
   all_goals go_wp2_with fail
   all_goals go_meet
   all_goals (first
     | (have hg5' := hg5
        exact ⟨_, _, _, rfl, fp_set HQ.out hb5 (by simpa using e1) (by simpa using e2) hg5'⟩)
     | exact ⟨_, _, _, rfl, fp_alloc HQ.out hb5 e1 e2 (Nat.le_refl _) (Nat.le_succ _)⟩)
 case rest =>
   obtain ⟨P, S, A, rfl, HF⟩ := hcut
   clear HQ hs3' HES hbA hbd wl w3l HG HB3 HUC y0 y2 y3 y10
   obtain ⟨u2, u3, u4, u5, u6, u7, u8, u9, u10⟩ := HF.out.un
   simp only [Sl.v] at u6 u7 u8 u9
   have x0 := HF.out.x0
   have hp := HF.out.hp
   have hbd : Below wc.heap.size wc wc.drew := (Below.refl _ wc).drew
   have wl := wrap_id (x := (last : Int) + 1) (by omega) (by omega)
   have hm : ((last : Int) + 1) * (C.ins + (C.ps.length : Int)) = last * C.f + C.f := by rw [hfe, Int.add_mul]; omega
   have wm := wrap_id (x := ((last : Int) + 1) * (C.ins + (C.ps.length : Int))) (by rw [hm]; omega) (by rw [hm]; omega)
   have hP := (Array.getElem?_eq_some_iff.1 HF.out.p).1
   have HV : Hid (((last + 1 : Nat) : Int) * C.f = ((last : Int) + 1) * (C.ins + (C.ps.length : Int))) := by unfold Hid; rw [hfe, Int.natCast_add, Int.natCast_one]
   clear hm hfl
   rw [HV.out] at HMK
   rw [show ((last + 1 : Nat) : Int) = (last : Int) + 1 by omega] at HMK
   go_upto_region 3 with fail
   go_region_held3 (fun w' => w'.cell? ⟨w.heap.size, 0, none⟩ = some (.pointer (some ⟨M, 0, none⟩)) ∧ w'.cell? ⟨M, 2, none⟩ = some (.int .i64 C.ins) ∧ w'.cell? ⟨M, 3, none⟩ = some (.slice C.p C.ps.length C.cap) ∧ w'.cell? ⟨M, 4, none⟩ = some (.int .i64 C.a) ∧ w'.cell? ⟨M, 5, none⟩ = some (.int .i64 C.s) ∧ w'.cell? ⟨M, 6, none⟩ = some (.slice C.i.at' C.i.ns.length C.i.cap) ∧ w'.cell? ⟨M, 7, none⟩ = some (.slice C.n.at' C.n.ns.length C.n.cap) ∧ w'.cell? ⟨M, 8, none⟩ = some (.slice C.b.at' C.b.ns.length C.b.cap) ∧ w'.cell? ⟨M, 9, none⟩ = some (.slice C.h.at' C.h.ns.length C.h.cap) ∧ w'.cell? ⟨M, 10, none⟩ = some (.int .i64 last))
     (first | exact ⟨cell_later hb6 x0, cell_later hb6 u2, cell_later hb6 u3, cell_later hb6 u4, cell_later hb6 u5, cell_later hb6 u6, cell_later hb6 u7, cell_later hb6 u8, cell_later hb6 u9, cell_later hb6 u10⟩ | exact ⟨cell_later hbd x0, cell_later hbd u2, cell_later hbd u3, cell_later hbd u4, cell_later hbd u5, cell_later hbd u6, cell_later hbd u7, cell_later hbd u8, cell_later hbd u9, cell_later hbd u10⟩ | exact ⟨cell_set_far (cell_later hb6 x0) (by simp; omega), cell_set_far (cell_later hb6 u2) (by simp; omega), cell_set_far (cell_later hb6 u3) (by simp; omega), cell_set_far (cell_later hb6 u4) (by simp; omega), cell_set_far (cell_later hb6 u5) (by simp; omega), cell_set_far (cell_later hb6 u6) (by simp; omega), cell_set_far (cell_later hb6 u7) (by simp; omega), cell_set_far (cell_later hb6 u8) (by simp; omega), cell_set_far (cell_later hb6 u9) (by simp; omega), cell_set_far (cell_later hb6 u10) (by simp; omega)⟩ | go_keep)
     ((go_at_call 36; refine (HST.out _).mono ?_; rintro e w6 ⟨rfl, hb6'⟩; have hb6 : Below wc.heap.size wc w6 := bthen hbd hb6'; have HP := hide (r45 ((hb6.block P hP).trans HF.out.p)); obtain ⟨p0, p1, p2, g0, g1, g2⟩ := HP.out.1))
   all_goals
     rename_i hHeld
     clear hHeld
     generalize ((last : Int) + 1) * (C.ins + (C.ps.length : Int)) = VS at *
     have hg7 := heap_setCell_same _ _ 0 _ _ (.int .i64 VS) ((hb6.block P hP).trans HF.out.p)
     have hcs : ∀ {q : Addr} {x : Value}, wc.cell? q = some x → q.block ≠ P → (w6.setCell ⟨P, 0, none⟩ (.int .i64 VS)).cell? q = some x := fun hq hne => cell_set_far (cell_later hb6 hq) hne
     have hR7 : (w6.setCell ⟨P, 0, none⟩ (.int .i64 VS)).heap[w.heap.size + 1]? = some (.cells #[.int .i64 0, .int .i64 0, .nilFunc] 45) := by
       rw [heap_setCell_other _ _ _ _ (by simp; omega)]
       exact (hb6.block _ (by omega)).trans HF.out.g1
     have HR := hide (r45 hR7)
     obtain ⟨q0, q1, q2, f0, f1, f2⟩ := HR.out.1
     obtain ⟨k0, k1, k2, _, _, _⟩ := (r45 hg7).1
     have HBX : Hid (Bxs (w6.setCell ⟨P, 0, none⟩ (.int .i64 VS)) v M [(⟨S, 0, none⟩, .int .i64 ((last : Int) + 1)), (⟨A, 0, none⟩, .func (.func 35) #[] #[.pointer (some ⟨w.heap.size, 0, none⟩), .pointer (some ⟨w.heap.size + 1 + 1, 0, none⟩)]), (⟨w.heap.size, 0, none⟩, .pointer (some ⟨M, 0, none⟩)), (⟨w.heap.size + 1 + 1, 0, none⟩, .int .i64 C.ins), (⟨w.heap.size + 1 + 1, 1, none⟩, .slice C.p C.ps.length C.cap)]) := fun q x hq => by
       have := HF.out.hs
       have := HF.out.ha
       simp only [List.mem_cons, List.mem_nil_iff, or_false, Prod.mk.injEq] at hq
       rcases hq with ⟨rfl, rfl⟩ | ⟨rfl, rfl⟩ | ⟨rfl, rfl⟩ | ⟨rfl, rfl⟩ | ⟨rfl, rfl⟩
       · exact ⟨hcs HF.out.s HF.out.ps.symm, HNW.out _ (by simp; omega)⟩
       · exact ⟨hcs HF.out.a HF.out.pa.symm, HNW.out _ (by simp; omega)⟩
       · exact ⟨hcs HF.out.x0 (by simp; omega), HNW.out _ (Nat.le_refl _)⟩
       · exact ⟨hcs HF.out.x2 (by simp; omega), HNW.out _ (by simp; omega)⟩
       · exact ⟨hcs HF.out.x3 (by simp; omega), HNW.out _ (by simp; omega)⟩
     have HB7 := hide (((bthen HF.out.b hb6).setCell (p := ⟨P, 0, none⟩) (show w.heap.size ≤ P by omega) (.int .i64 VS)))
     have HEND : Hid (PtOut w0 w M v C last VS Z (stepsL (fun t => andsT C t C.ps.length) (last + 1)) none (.returned (.agg #[.int .i64 VS, .int .i64 Z, .func (.func 65) #[] #[.pointer (some ⟨S, 0, none⟩), .pointer (some ⟨A, 0, none⟩)]])) (set3 (w6.setCell ⟨P, 0, none⟩ (.int .i64 VS)) (w.heap.size + 1) (.int .i64 VS) (.int .i64 Z) (.func (.func 65) #[] #[.pointer (some ⟨S, 0, none⟩), .pointer (some ⟨A, 0, none⟩)]))) :=
       ⟨_, rfl, rfl, rfl, rfl, rfl, set3_below HB7.out (by omega) _ _ _, set3_bxs HBX.out (fun q x hq => by
         have := HF.out.hs
         have := HF.out.ha
         simp only [List.mem_cons, List.mem_nil_iff, or_false, Prod.mk.injEq] at hq
         rcases hq with ⟨rfl, rfl⟩ | ⟨rfl, rfl⟩ | ⟨rfl, rfl⟩ | ⟨rfl, rfl⟩ | ⟨rfl, rfl⟩ <;> simp <;> omega) _ _ _, HMK.out w.heap.size (w.heap.size + 1 + 1) _ _ Z, enter65⟩
     clear hcs hR7 hg7 HBX HB7 HMK HNW p0 p1 p2 g0 g1 g2 HP u2 u3 u4 u5 u6 u7 u8 u9 u10 x0 hb6 hb6' HF hP
     generalize w6.setCell ⟨P, 0, none⟩ (.int .i64 VS) = w7 at *
     go_wp2
     refine bodyPost_ret (results_cell_row rfl _ _ (w.heap.size + 1) 45 _ _ _ rfl (HR.out.2 _ _ _) Tryz.underlying45 rfl (by kernel_rfl)) rfl ?_
     rw [HV.out, hZ]
     exact HEND.out
end Go.Proofs.YtjhkecnnhddhbaaGreatDoor

namespace Go.Proofs.YtjhkecnnhddhbaaGreatDoor
open Go.RowKit Go.Maps Go.WideMaps
set_option maxRecDepth 100000
def prt0 : Prt := ⟨0, 0, 0, #[], [], [], none⟩
def sumV (ps : List Prt) : Nat → Int
 | 0 => 0
 | k + 1 => sumV ps k + (ps.getD k prt0).vs
def sumC (ps : List Prt) : Nat → Int
 | 0 => 0
 | k + 1 => sumC ps k + (ps.getD k prt0).cs
def madeL (ps : List Prt) (k : Nat) : List (List Int) := (ps.take k).flatMap Prt.L
theorem madeL_succ (ps : List Prt) (k : Nat) (h : k < ps.length) : madeL ps (k + 1) = madeL ps k ++ ps[k].L := by
 unfold madeL
 rw [List.take_succ_eq_append_getElem h, List.flatMap_append]
 simp
theorem madeL_mono (ps : List Prt) {k n : Nat} (h : k ≤ n) (hn : n ≤ ps.length) : (madeL ps k).length ≤ (madeL ps n).length := by
 induction n with
 | zero => obtain rfl : k = 0 := by omega
           exact Nat.le_refl _
 | succ n ih =>
   by_cases e : k = n + 1
   · subst e; exact Nat.le_refl _
   · have := ih (by omega) (by omega)
     rw [madeL_succ ps n (by omega), List.length_append]
     omega
theorem getD_prt {ps : List Prt} {k : Nat} (h : k < ps.length) : ps.getD k prt0 = ps[k] := by simp [List.getD, List.getElem?_eq_getElem h]
structure PrB (w : World) (v : Value) (M PB : Nat) (ps : List Prt) : Prop where
 m : PB ≠ M
 v : v.ownBlock ≠ some PB
 c : ∀ i (h : i < ps.length), w.cell? ⟨PB, i * 3, none⟩ = some (.int .i64 ps[i].vs) ∧ w.cell? ⟨PB, i * 3 + 1, none⟩ = some (.int .i64 ps[i].cs) ∧ w.cell? ⟨PB, i * 3 + 2, none⟩ = some (.func (.func ps[i].fn) #[] ps[i].caps)
theorem PrB.kp {w w1 : World} {v v1 : Value} {M PB : Nat} {ps : List Prt} (h : PrB w v M PB ps) (h0 : 0 < ps.length) (hk : Kp M w v w1 v1) : PrB w1 v1 M PB ps := by
 have g : ∀ j x, w.cell? ⟨PB, j, none⟩ = some x → w1.cell? ⟨PB, j, none⟩ = some x ∧ v1.ownBlock ≠ some PB := fun j x hx => hk.keep _ x hx (fun e => h.m (by cases e; rfl)) (fun e => h.m (by cases e; rfl)) h.v
 refine ⟨h.m, (g _ _ (h.c 0 h0).1).2, fun i hi => ?_⟩
 obtain ⟨h1, h2, h3⟩ := h.c i hi
 exact ⟨(g _ _ h1).1, (g _ _ h2).1, (g _ _ h3).1⟩
theorem PrB.later {w w1 : World} {v : Value} {M PB : Nat} {ps : List Prt} (h : PrB w v M PB ps) (hb : Below w.heap.size w w1) : PrB w1 v M PB ps :=
 ⟨h.m, h.v, fun i hi => ⟨cell_later hb (h.c i hi).1, cell_later hb (h.c i hi).2.1, cell_later hb (h.c i hi).2.2⟩⟩
structure POk (w0 : World) (M : Nat) (C : Ci) (last : Nat) (p : Prt) : Prop where
 v0 : 0 ≤ p.vs
 v1 : p.vs ≤ 1000000000000
 c0 : p.cs = p.L.length
 c1 : p.cs ≤ 1000000000000
 mks : ((last : Int) + 1) * C.f ≤ 200000 → Makes w0 M C last p
 en : ∀ (args : Array Value) (w : World), (callFunc p.fn args).run Tryz.prog w = .ok (.enter p.fn args) w
theorem sumV_bd {ps : List Prt} (h : ∀ p ∈ ps, 0 ≤ p.vs ∧ p.vs ≤ 1000000000000) (k : Nat) (hk : k ≤ ps.length) : 0 ≤ sumV ps k ∧ sumV ps k ≤ k * 1000000000000 := by
 induction k with
 | zero => exact ⟨Int.le_refl _, by simp [sumV]⟩
 | succ k ih =>
   have := ih (by omega)
   have h2 := h ps[k] (List.getElem_mem (by omega))
   rw [← getD_prt (by omega)] at h2
   show 0 ≤ sumV ps k + (ps.getD k prt0).vs ∧ sumV ps k + (ps.getD k prt0).vs ≤ _
   omega
theorem sumC_bd {ps : List Prt} (h : ∀ p ∈ ps, 0 ≤ p.cs ∧ p.cs ≤ 1000000000000) (k : Nat) (hk : k ≤ ps.length) : 0 ≤ sumC ps k ∧ sumC ps k ≤ k * 1000000000000 := by
 induction k with
 | zero => exact ⟨Int.le_refl _, by simp [sumC]⟩
 | succ k ih =>
   have := ih (by omega)
   have h2 := h ps[k] (List.getElem_mem (by omega))
   rw [← getD_prt (by omega)] at h2
   show 0 ≤ sumC ps k + (ps.getD k prt0).cs ∧ sumC ps k + (ps.getD k prt0).cs ≤ _
   omega
theorem sumV_mono {ps : List Prt} (h : ∀ p ∈ ps, 0 ≤ p.vs ∧ p.vs ≤ 1000000000000) {k n : Nat} (hk : k ≤ n) (hn : n ≤ ps.length) : sumV ps k ≤ sumV ps n := by
 induction n with
 | zero => obtain rfl : k = 0 := by omega
           exact Int.le_refl _
 | succ n ih =>
   by_cases e : k = n + 1
   · subst e; exact Int.le_refl _
   · have := ih (by omega) (by omega)
     have h2 := h ps[n] (List.getElem_mem (by omega))
     rw [← getD_prt (by omega)] at h2
     show _ ≤ sumV ps n + (ps.getD n prt0).vs
     omega
theorem sumC_len {ps : List Prt} (h : ∀ p ∈ ps, p.cs = p.L.length) (k : Nat) (hk : k ≤ ps.length) : sumC ps k = (madeL ps k).length := by
 induction k with
 | zero => simp [sumC, madeL]
 | succ k ih =>
   have h2 := h ps[k] (List.getElem_mem (by omega))
   show sumC ps k + (ps.getD k prt0).cs = _
   rw [ih (by omega), getD_prt (by omega), h2, madeL_succ ps k (by omega), List.length_append]
   omega
def madE (ps : List Prt) : Int := if 200000 < sumV ps ps.length then 3 else if 800000 < (madeL ps ps.length).length then 2 else chkC (sumV ps ps.length) (madeL ps ps.length)
def MdOut (w0 : World) (E V : Int) (L : List (List Int)) (e : Ending) (w' : World) : Prop := ∃ pv cv rws,
 e = .returned (.tuple #[cval (ofV E V) pv (List.length rws) cv, .int .i64 E]) ∧ numsOf rws = ofL E L ∧ ClAt w' pv rws ∧ Below w0.heap.size w0 w' ∧ (∀ a, pv = some a → w0.heap.size ≤ a.block) ∧ ∀ r ∈ rws, ∀ a, r.at' = some a → w0.heap.size ≤ a.block
theorem mdOut_no {w0 w' : World} {E V : Int} {L : List (List Int)} (hne : E ≠ 0) (hb : Below w0.heap.size w0 w') : MdOut w0 E V L (.returned (.tuple #[cval 0 none 0 0, .int .i64 E])) w' :=
 ⟨none, 0, [], by unfold ofV; rw [if_neg hne]; rfl, by unfold ofL; rw [if_neg hne]; rfl, clAt_nil _, hb, (fun a h => by cases h), (fun r hr => by cases hr)⟩
theorem first_zero {V : Int} {L : List (List Int)} (h : firstE V L = 0) : ∀ c ∈ L, ∀ x ∈ c, x ≠ 0 := by
 induction L with
 | nil => intro c hc; simp at hc
 | cons d t ih =>
   unfold firstE at h
   by_cases hr : rowE V d = 0
   · rw [if_neg (by simpa using hr)] at h
     intro c hc x hx
     rcases List.mem_cons.1 hc with rfl | hc
     · unfold rowE at hr
       split at hr
       · cases hr
       · split at hr
         · cases hr
         · rename_i hn
           rintro rfl
           exact hn (List.any_eq_true.2 ⟨0, hx, by simp [noneC]⟩)
     · exact ih h c hc x hx
   · rw [if_pos (by simpa using hr)] at h
     exact absurd h hr
theorem chkC_zero {V : Int} {L : List (List Int)} (h : chkC V L = 0) : ∀ c ∈ L, ∀ x ∈ c, x ≠ 0 := by
 unfold chkC at h
 split at h
 · cases h
 · split at h
   · cases h
   · exact first_zero h
theorem clAt_res {w : World} {p : Option Addr} {rs : List Row} {G : Nat} (h : ClAt w p rs) (hg : w.heap[G]? = some (.cells #[.int .i64 0, .slice none 0 0] 30)) (hp : ∀ a, p = some a → a.block ≠ G) (hx : ∀ r ∈ rs, ∀ x ∈ r.ns, x ≠ 0) (u u' : Value) :
   ClAt ((w.setCell ⟨G, 0, none⟩ u).setCell ⟨G, 1, none⟩ u') p rs := by
 refine ⟨fun h0 => ?_, fun r hr h0 => ?_⟩
 · obtain ⟨b, off, e, hc⟩ := h.rows h0
   exact ⟨b, off, e, fun j hj => cell_set_far (cell_set_far (hc j hj) (hp ⟨b, off, none⟩ e)) (hp ⟨b, off, none⟩ e)⟩
 · obtain ⟨b, off, e, hc⟩ := h.inn r hr h0
   have hbG : b ≠ G := by
     rintro rfl
     have c0 := hc 0 h0
     have hxx := hx r hr r.ns[0] (List.getElem_mem h0)
     rw [Nat.add_zero, Lib.cell_of_heap hg] at c0
     match off, c0 with
     | 0, c0 => simp at c0; exact hxx c0.symm
     | 1, c0 => simp at c0
     | n + 2, c0 => simp at c0
   exact ⟨b, off, e, fun j hj => cell_set_far (cell_set_far (hc j hj) hbG) hbG⟩
theorem r30 {w : World} {R : Nat} {x y : Value} (h : w.heap[R]? = some (.cells #[x, y] 30)) :
   (w.cell? ⟨R, 0, none⟩ = some x ∧ w.cell? ⟨R, 1, none⟩ = some y ∧ w.frozen? ⟨R, 0, none⟩ = false ∧ w.frozen? ⟨R, 1, none⟩ = false) ∧ ∀ a b, ((w.setCell ⟨R, 0, none⟩ a).setCell ⟨R, 1, none⟩ b).heap[R]? = some (.cells #[a, b] 30) := by
 refine ⟨⟨by rw [Lib.cell_of_heap h]; rfl, by rw [Lib.cell_of_heap h]; rfl, Lib.frozen_of_heap h 0, Lib.frozen_of_heap h 1⟩, fun a b => ?_⟩
 rw [heap_setCell_same _ _ _ _ _ _ (heap_setCell_same _ _ _ _ _ _ h)]
 rfl
theorem res30 {fn : Func} {p u : Tmp} (h : fn.results = #[.cell p 30, .tmp u]) (tmps : Array Value) {w : World} {R : Nat} {a b : Value} (hp : tmps.getD p undef = .pointer (some ⟨R, 0, none⟩)) (hg : w.heap[R]? = some (.cells #[a, b] 30)) :
   (results fn tmps).run Tryz.prog w = .ok (.tuple #[.agg #[a, b], tmps.getD u undef]) w := by
 have hld := run_loadVar_row (P := Tryz.prog) _ R 30 30 _ _ _ hg Tryz.underlying30 rfl (by kernel_rfl)
 rw [results_cell_tmp h, hp]
 simp [asAddr, hld, Result.andThen]
def MdKp (w : World) (M : Nat) (w' : World) : Prop := ∀ g, g < w.heap.size → g ≠ M → w'.heap[g]? = w.heap[g]?
theorem MdKp.set {w w' : World} {M : Nat} (h : MdKp w M w') (a b : Value) : MdKp w M ((w'.setCell ⟨w.heap.size, 0, none⟩ a).setCell ⟨w.heap.size, 1, none⟩ b) := fun g hg hm => by
 rw [Below.heap_setCell _ _ _ _ (by simp; omega), Below.heap_setCell _ _ _ _ (by simp; omega)]
 exact h g hg hm
set_option maxHeartbeats 16000000 in
theorem made_parts (w0 : World) (M : Nat) (C : Ci) (last : Nat) (ps : List Prt) (hp0 : 0 < ps.length) (hp1 : ps.length ≤ 10) (hok : ∀ p ∈ ps, POk w0 M C last p) (hcl : ∀ c ∈ madeL ps ps.length, c.length ≤ 4000000) (hvs : sumV ps ps.length ≤ 200000 → ((last : Int) + 1) * C.f ≤ 200000) (hnd : ∀ k (h : k < ps.length) x, ps[k].need = some x → sumV ps k = x) (PB : Nat) (w : World)
   (hU : Un w0 w M (.slice none 0 0) 0 [] C last) (hP : PrB w (.slice none 0 0) M PB ps) (hB : ∀ p ∈ ps, Bxs w (.slice none 0 0) M p.bx) :
   Calls Tryz.prog 11 #[.pointer (some ⟨M, 0, none⟩), .slice (some ⟨PB, 0, none⟩) ps.length ps.length] w (fun e w' => MdOut w0 (madE ps) (sumV ps ps.length) (madeL ps ps.length) e w' ∧ MdKp w M w') := by
 have hvb : ∀ p ∈ ps, 0 ≤ p.vs ∧ p.vs ≤ 1000000000000 := fun p h => ⟨(hok p h).v0, (hok p h).v1⟩
 have HSL := hide (sumC_len (fun p h => (hok p h).c0))
 have HVB := hide (fun k hk => sumV_bd hvb k hk)
 have HCB := hide (fun k hk => sumC_bd (ps := ps) (fun p h => ⟨by rw [(hok p h).c0]; omega, (hok p h).c1⟩) k hk)
 have HVM := hide (fun k (hk : k ≤ ps.length) => sumV_mono hvb hk (Nat.le_refl _))
 have HOK := hide hok
 have HU := hide hU
 have HP := hide hP
 have HB := hide hB
 have HCL := hide hcl
 have HVS := hide hvs
 have HND := hide hnd
 have hb0 : Below w.heap.size w (w.alloc (.cells #[.int .i64 0, .slice none 0 0] 30)) := bal (Below.refl _ _) _
 have HB0 := hide hb0
 have HG0 : Hid ((w.alloc (.cells #[.int .i64 0, .slice none 0 0] 30)).heap[w.heap.size]? = some (.cells #[.int .i64 0, .slice none 0 0] 30)) := alloc_at rfl
 have HSV : Hid (∀ k, sumV ps (k + 1) = sumV ps k + (ps.getD k prt0).vs) := fun _ => rfl
 have HSC : Hid (∀ k, sumC ps (k + 1) = sumC ps k + (ps.getD k prt0).cs) := fun _ => rfl
 have HE : Hid (madE ps = if 200000 < sumV ps ps.length then 3 else if 800000 < (madeL ps ps.length).length then 2 else chkC (sumV ps ps.length) (madeL ps ps.length)) := rfl
 clear hok hU hP hB hcl hvb hb0 hvs hnd
 go_enter Tryz.func11, Tryz.ntmps11
 go_wp2
 generalize w.alloc (.cells #[.int .i64 0, .slice none 0 0] 30) = w1 at *
 go_loopw [6, 7, 15] (fun a b i wr => ∃ k : Nat, k ≤ ps.length ∧ i = .int .i64 k ∧ a = .int .i64 (sumV ps k) ∧ b = .int .i64 (sumC ps k) ∧ Hid (Below w1.heap.size w1 wr)) (fun _ _ i _ => ps.length - (intOf i).toNat)
 case atStart => exact ⟨0, Nat.zero_le _, rfl, rfl, rfl, Below.refl _ _⟩
 case round =>
   obtain ⟨k, hk, rfl, rfl, rfl, HBW⟩ := hrel
   by_cases hlt : k < ps.length
   · have hki : (k : Int) < (ps.length : Int) := by omega
     obtain ⟨c0, c1, c2⟩ := (HP.out.later (bthen HB0.out HBW.out)).c k hlt
     have hs1 := HSV.out k
     have hs2 := HSC.out k
     rw [getD_prt hlt] at hs1 hs2
     have hv := HVB.out k hk
     have hv2 := HVB.out (k + 1) (by omega)
     have hc := HCB.out k hk
     have hc2 := HCB.out (k + 1) (by omega)
     generalize hV1 : sumV ps k = V1 at *
     generalize hC1 : sumC ps k = C1 at *
     generalize ps[k].vs = pvs at *
     generalize ps[k].cs = pcs at *
     generalize ps[k].fn = pfn at *
     generalize ps[k].caps = pca at *
     have ww1 := wrap_id (x := V1 + pvs) (by omega) (by omega)
     have ww2 := wrap_id (x := C1 + pcs) (by omega) (by omega)
     have HS1 := hide hs1
     have HS2 := hide hs2
     have HB2 : Hid (Below w1.heap.size w1 (wr.alloc (.cells #[.int .i64 pvs, .int .i64 pcs, .func (.func pfn) #[] pca] 45))) := bal HBW.out _
     clear hs1 hs2 hV1 hC1 hv hv2 hc hc2
     go_wp2
     go_roundw
     case rel => exact ⟨k + 1, by omega, by go_num, by rw [HS1.out], by rw [HS2.out], HB2⟩
     case measure => simp [intOf]; omega
   · obtain rfl : k = ps.length := by omega
     have hvv := HVB.out ps.length (Nat.le_refl _)
     have hcc := HSL.out ps.length (Nat.le_refl _)
     have hbW := bthen HB0.out HBW.out
     have HW := hide hbW
     have hG : w.heap.size < w1.heap.size := (Array.getElem?_eq_some_iff.1 HG0.out).1
     have hGr : wr.heap[w.heap.size]? = some (.cells #[.int .i64 0, .slice none 0 0] 30) := (HBW.out.block _ hG).trans HG0.out
     have HGR := hide hGr
     have gz0 : wr.cell? ⟨w.heap.size, 0, none⟩ = some (.int .i64 0) := by rw [Lib.cell_of_heap hGr]; rfl
     have gz1 : wr.cell? ⟨w.heap.size, 1, none⟩ = some (.slice none 0 0) := by rw [Lib.cell_of_heap hGr]; rfl
     have gf0 : wr.frozen? ⟨w.heap.size, 0, none⟩ = false := Lib.frozen_of_heap hGr 0
     have gf1 : wr.frozen? ⟨w.heap.size, 1, none⟩ = false := Lib.frozen_of_heap hGr 1
     clear hbW hGr
     have HR := hide (r30 HGR.out)
     have HMK : Hid (MdKp w M wr) := fun g hg _ => HW.out.block g hg
     have HCV : Hid (sumC ps ps.length = (madeL ps ps.length).length) := hcc
     by_cases h3 : 200000 < sumV ps ps.length
     · have HX : Hid (madE ps = 3) := by unfold Hid; rw [HE.out, if_pos h3]
       have HEND : Hid (MdOut w0 3 (sumV ps ps.length) (madeL ps ps.length) (.returned (.tuple #[cval 0 none 0 0, .int .i64 3])) ((wr.setCell ⟨w.heap.size, 0, none⟩ (.int .i64 0)).setCell ⟨w.heap.size, 1, none⟩ (.slice none 0 0))) :=
         mdOut_no (by decide) (HU.out.bl.trans (((HW.out.setCell (p := ⟨w.heap.size, 0, none⟩) (Nat.le_refl _) _).setCell (p := ⟨w.heap.size, 1, none⟩) (Nat.le_refl _) _).mono HU.out.sz))
       clear hcc hvv HW HU HP HB HOK HVB HVM HCB HSL HCL HE HSV HSC HBW HB0 HG0 HGR HCV
       generalize sumV ps ps.length = V at *
       generalize sumC ps ps.length = Cc at *
       go_wp2
       refine bodyPost_ret (res30 rfl _ rfl (HR.out.2 _ _)) rfl ?_
       rw [HX.out]
       exact ⟨HEND.out, HMK.out.set _ _⟩
     · have h3' : decide (200000 < sumV ps ps.length) = false := by simpa using h3
       by_cases h2 : 800000 < (madeL ps ps.length).length
       · have HX : Hid (madE ps = 2) := by unfold Hid; rw [HE.out, if_neg h3, if_pos h2]
         have h2' : 800000 < sumC ps ps.length := by omega
         have HEND : Hid (MdOut w0 2 (sumV ps ps.length) (madeL ps ps.length) (.returned (.tuple #[cval 0 none 0 0, .int .i64 2])) ((wr.setCell ⟨w.heap.size, 0, none⟩ (.int .i64 0)).setCell ⟨w.heap.size, 1, none⟩ (.slice none 0 0))) :=
           mdOut_no (by decide) (HU.out.bl.trans (((HW.out.setCell (p := ⟨w.heap.size, 0, none⟩) (Nat.le_refl _) _).setCell (p := ⟨w.heap.size, 1, none⟩) (Nat.le_refl _) _).mono HU.out.sz))
         clear hcc hvv HW HU HP HB HOK HVB HVM HCB HSL HCL HE HSV HSC HBW HB0 HG0 HGR HCV h3 h2
         generalize sumV ps ps.length = V at *
         generalize sumC ps ps.length = Cc at *
         go_wp2
         refine bodyPost_ret (res30 rfl _ rfl (HR.out.2 _ _)) rfl ?_
         rw [HX.out]
         exact ⟨HEND.out, HMK.out.set _ _⟩
       · have h2' : decide (800000 < sumC ps ps.length) = false := by simp; omega
         have HX : Hid (madE ps = chkC (sumV ps ps.length) (madeL ps ps.length)) := by unfold Hid; rw [HE.out, if_neg h3, if_neg h2]
         have HU2 := hide (HU.out.later HW.out)
         have HP2 := hide (HP.out.later HW.out)
         have HB2 : Hid (∀ p ∈ ps, Bxs wr (.slice none 0 0) M p.bx) := fun p hp => (HB.out p hp).later HW.out
         have hGn := HU.out.new (Nat.le_refl w.heap.size)
         have hw0 := HU.out.sz
         have hGl : w.heap.size < wr.heap.size := Nat.lt_of_lt_of_le hG HBW.out.size
         clear h3 h2 hcc HP HB HU HBW HB0 HG0
         generalize wr = w2 at *
         go_wp2
         go_loopw [36] (fun i wr => ∃ k : Nat, k ≤ ps.length ∧ i = .int .i64 k ∧ Hid (∃ v' rs', numsOf rs' = madeL ps k ∧ Un w0 wr M v' (sumV ps k) rs' C last ∧ Kp M w2 (.slice none 0 0) wr v')) (fun i _ => ps.length - (intOf i).toNat)
         case atStart => exact ⟨0, Nat.zero_le _, rfl, _, [], by simp [madeL, numsOf], HU2.out, Kp.refl _ _ _⟩
         case round =>
           obtain ⟨k, hk, rfl, HQ⟩ := hrel
           obtain ⟨v1, rs1, hn1, hU1, hk1⟩ := HQ.out
           by_cases hlt : k < ps.length
           · have hki : (k : Int) < (ps.length : Int) := by omega
             obtain ⟨c0, c1, c2⟩ := (HP2.out.kp hp0 hk1).c k hlt
             have hpk := HOK.out ps[k] (List.getElem_mem hlt)
             have hBk := (HB2.out ps[k] (List.getElem_mem hlt)).kp hk1
             have hent := hpk.en
             have hML := madeL_succ ps k hlt
             have hMM := madeL_mono ps (show k + 1 ≤ ps.length by omega) (Nat.le_refl _)
             have hln := numsOf_lenE hn1
             have hs1 := HSV.out k
             rw [getD_prt hlt] at hs1
             have hvk := HVB.out k hk
             have hvm := HVM.out (k + 1) (by omega)
             have hL : (madeL ps ps.length).length ≤ 800000 := by have := HCV.out; simp at h2'; omega
             have hV : sumV ps ps.length ≤ 200000 := by simpa using h3'
             rw [hML, List.length_append] at hMM
             have hbA : Below wr.heap.size wr (wr.alloc (.cells #[.int .i64 ps[k].vs, .int .i64 ps[k].cs, .func (.func ps[k].fn) #[] ps[k].caps] 45)) := bal (Below.refl _ _) _
             have HC := hide (hpk.mks (HVS.out hV) _ v1 (sumV ps k) rs1 (hU1.later hbA) (hBk.later hbA) (by omega) (by omega) (by omega) (HND.out k hlt))
             rw [← hs1] at HC
             have HN1 := hide hn1
             have HK1 := hide (hk1.trans (Kp.later hbA))
             have HML := hide hML
             clear hn1 hU1 hk1 hpk hBk hML hMM hln hs1 hvk hvm hL hV hbA HQ
             generalize ps[k].vs = pvs at *
             generalize ps[k].cs = pcs at *
             generalize ps[k].fn = pfn at *
             generalize ps[k].caps = pca at *
             generalize ps[k].L = pL at *
             go_wp2_with fail
             refine HC.out.mono ?_
             rintro e w4 ⟨rfl, v4, rs4, hn4, hU4, hk4⟩
             have HR4 := hide (show ∃ v' rs', numsOf rs' = madeL ps (k + 1) ∧ Un w0 w4 M v' (sumV ps (k + 1)) rs' C last ∧ Kp M w2 (.slice none 0 0) w4 v' from ⟨v4, rs4, by rw [hn4, HN1.out, HML.out], hU4, HK1.out.trans hk4⟩)
             clear hn4 hU4 hk4 HC HK1 HN1 HML
             go_wp2
             go_roundw
             case rel => exact ⟨k + 1, by omega, by go_num, HR4⟩
             case measure => simp [intOf]; omega
           · obtain rfl : k = ps.length := by omega
             have hnG := (hk1.blk w.heap.size hGl hGn.1 (by simp [Value.ownBlock])).1
             obtain ⟨pv, cv, rfl, hrw⟩ := owns_rows hU1.cm.row
             have hCl : ClAt wr pv rs1 := ⟨hrw, hU1.cm.inn⟩
             have hln := numsOf_lenE hn1
             have hL : (madeL ps ps.length).length ≤ 800000 := by have := HCV.out; simp at h2'; omega
             have hin : ∀ r ∈ rs1, r.ns.length ≤ maxLen := fun r hr => by
               have := HCL.out r.ns (by rw [← hn1]; exact List.mem_map_of_mem hr)
               unfold maxLen
               omega
             have HCK := hide (checkC_any (sumV ps ps.length) pv cv rs1 (by omega) hin wr hCl)
             rw [hn1, ← HX.out] at HCK
             have m0 := hU1.cm.c0
             have m1 := hU1.cm.c1
             have hM := World.block_lt_of_cell? _ _ m0
             simp only at hM
             have hGr : wr.heap[w.heap.size]? = some (.cells #[.int .i64 0, .slice none 0 0] 30) := hnG.trans HGR.out
             have hpG := (hk1.blk w.heap.size hGl hGn.1 (by simp [Value.ownBlock])).2
             have HMW : Hid (MdKp w M wr) := fun g hg hm => ((hk1.blk g (Nat.lt_trans hg hGl) hm (by simp [Value.ownBlock])).1).trans (HMK.out g hg hm)
             have HFA : Hid ((∀ a, pv = some a → w0.heap.size ≤ a.block) ∧ (∀ r ∈ rs1, ∀ a, r.at' = some a → w0.heap.size ≤ a.block) ∧ ∀ a, pv = some a → a.block ≠ w.heap.size) :=
               ⟨fun a ha => (hU1.cm.row.lt a.block (by rw [ha]; rfl)).1, fun r hr a ha => (hU1.cm.far r hr a ha).2.2.2, fun a ha e => hpG (by rw [ha, ← e]; rfl)⟩
             have HBW : Hid (Below w0.heap.size w0 wr) := hU1.bl
             have hGl2 : w.heap.size < wr.heap.size := (Array.getElem?_eq_some_iff.1 hGr).1
             have HCl := hide hCl
             have HGr := hide hGr
             have HN1 := hide hn1
             have HZ : Hid (madE ps = 0 → ∀ r ∈ rs1, ∀ x ∈ r.ns, x ≠ 0) := fun h r hr x hx => chkC_zero (HX.out.symm.trans h) r.ns (by rw [← hn1]; exact List.mem_map_of_mem hr) x hx
             clear hU1 hk1 hCl hGr hn1 hnG hpG hrw hin hL hln HQ
             go_wp2_with fail
             refine HCK.out.mono ?_
             rintro e w5 ⟨rfl, hb5⟩
             have HM5 : Hid (MdKp w M w5) := fun g hg hm => (hb5.block g (Nat.lt_trans hg hGl2)).trans (HMW.out g hg hm)
             have HR5 := hide (r30 ((hb5.block _ hGl2).trans HGr.out))
             obtain ⟨g0, g1, gf0, gf1⟩ := HR5.out.1
             have m0' := cell_later hb5 m0
             have m1' := cell_later hb5 m1
             have HB5 := hide (HBW.out.trans (hb5.mono (by omega)))
             have HC5 := hide (HCl.out.later hb5)
             have HG5 := hide ((hb5.block _ hGl2).trans HGr.out)
             clear m0 m1 hb5 HCK HCl HGr HBW
             by_cases hE : madE ps = 0
             · have hz := HZ.out hE
               have hlen := numsOf_lenE HN1.out
               have HEND : Hid (MdOut w0 0 (sumV ps ps.length) (madeL ps ps.length) (.returned (.tuple #[cval (sumV ps ps.length) pv rs1.length cv, .int .i64 0])) ((w5.setCell ⟨w.heap.size, 0, none⟩ (.int .i64 (sumV ps ps.length))).setCell ⟨w.heap.size, 1, none⟩ (.slice pv rs1.length cv))) :=
                 ⟨pv, cv, rs1, rfl, HN1.out, clAt_res HC5.out HG5.out HFA.out.2.2 hz _ _, ((HB5.out.setCell (p := ⟨w.heap.size, 0, none⟩) hw0 _).setCell (p := ⟨w.heap.size, 1, none⟩) hw0 _), HFA.out.1, HFA.out.2.1⟩
               rw [hE]
               have HHE := hide hE
               clear hz hlen HB5 HC5 HG5 HFA HZ HN1 hE
               generalize hVV : sumV ps ps.length = V at *
               have HVV := hide hVV
               clear hVV
               go_wp2
               refine bodyPost_ret (res30 rfl _ rfl (HR5.out.2 _ _)) rfl ?_
               rw [HHE.out, HVV.out]
               exact ⟨HEND.out, HM5.out.set _ _⟩
             · have hEb : (madE ps != 0) = true := by simpa using hE
               have HEND : Hid (MdOut w0 (madE ps) (sumV ps ps.length) (madeL ps ps.length) (.returned (.tuple #[cval 0 none 0 0, .int .i64 (madE ps)])) ((w5.setCell ⟨w.heap.size, 0, none⟩ (.int .i64 0)).setCell ⟨w.heap.size, 1, none⟩ (.slice none 0 0))) :=
                 mdOut_no hE ((HB5.out.setCell (p := ⟨w.heap.size, 0, none⟩) hw0 _).setCell (p := ⟨w.heap.size, 1, none⟩) hw0 _)
               clear HB5 HC5 HG5 HFA HZ HN1 hE HX HE
               generalize hVV : sumV ps ps.length = V at *
               have HVV := hide hVV
               clear hVV
               generalize hEE : madE ps = E at *
               have HEE := hide hEE
               clear hEE
               go_wp2
               refine bodyPost_ret (res30 rfl _ rfl (HR5.out.2 _ _)) rfl ?_
               rw [HVV.out, HEE.out]
               exact ⟨HEND.out, HM5.out.set _ _⟩
end Go.Proofs.YtjhkecnnhddhbaaGreatDoor

namespace Go.Proofs.YtjhkecnnhddhbaaGreatDoor
open Go.RowKit Go.Maps Go.WideMaps
set_option maxRecDepth 100000
set_option maxHeartbeats 2000000 in
theorem indexFunc0_any (fn : FuncId) (f : Int → Bool) (l : List Int) (p : Option Addr) (cap : Nat) (w : World) (hl : l.length ≤ maxLen) (hI : IntsAt w p l) (hent : ∀ (args : Array Value) (w : World), (callFunc fn args).run Tryz.prog w = .ok (.enter fn args) w)
   (hcl : ∀ wr, Below w.heap.size w wr → ∀ i (h : i < l.length), Calls Tryz.prog fn #[.int .i64 l[i]] wr fun e w' => e = .returned (.bool (f l[i])) ∧ Below wr.heap.size wr w') :
   Calls Tryz.prog 50 #[.slice p l.length cap, .func (.func fn) #[] #[]] w fun e w' => e = .returned (.int .i64 (findE f l)) ∧ Below w.heap.size w w' := by
 have HC : Hid _ := hcl
 unfold maxLen at hl
 clear hcl
 go_enter Tryz.func50, Tryz.ntmps50
 go_wp2
 go_loopw [8] (fun i wr => ∃ k : Nat, k ≤ l.length ∧ i = .int .i64 k ∧ Hid (∀ i (hi : i < l.length), i < k → f l[i] = false) ∧ Below w.heap.size w wr) (fun i _ => l.length - (intOf i).toNat)
 case atStart => exact ⟨0, Nat.zero_le _, rfl, fun i hi h => by omega, Below.refl _ _⟩
 case round =>
   obtain ⟨k, hk, rfl, hno, hbw⟩ := hrel
   by_cases hlt : k < l.length
   · obtain ⟨b, off, rfl, hc⟩ := (hI.later hbw) (by omega)
     have hck := hc k hlt
     have hcall := HC.out wr hbw k hlt
     have HH : Hid _ := findE_hit f l k hlt hno.out
     clear hc
     cases hf : f l[k]
     · have HN : Hid (∀ i (hi : i < l.length), i < k + 1 → f l[i] = false) := by
         intro i hi h
         rcases Nat.lt_succ_iff_lt_or_eq.1 h with h1 | rfl
         · exact hno.out i hi h1
         · exact hf
       rw [hf] at hcall
       have HCC : Hid (Unit → _) := fun _ => hcall
       clear hcall hf hno HH
       generalize l[k] = x at *
       go_wp2_with fail
       refine (HCC.out ()).mono ?_
       rintro e w' ⟨rfl, hb2⟩
       go_wp2
       go_roundw
       case rel => exact ⟨k + 1, by omega, by go_num, HN, bthen hbw hb2⟩
       case measure => simp [intOf]; omega
     · rw [hf] at hcall
       have HCC : Hid (Unit → _) := fun _ => hcall
       have HV : Hid (findE f l = k) := HH.out hf
       clear hcall hf hno HH
       generalize l[k] = x at *
       go_wp2_with fail
       refine (HCC.out ()).mono ?_
       rintro e w' ⟨rfl, hb2⟩
       go_wp2
       go_ret
       exact ⟨ret_int HV.out.symm, bthen hbw hb2⟩
   · have HV : Hid (findE f l = -1) := findE_miss f l (fun i hi => hno.out i hi (by omega))
     go_wp2
     go_ret
     exact ⟨ret_int HV.out.symm, hbw⟩
theorem containsFunc0_any (fn : FuncId) (f : Int → Bool) (l : List Int) (p : Option Addr) (cap : Nat) (w : World) (hl : l.length ≤ maxLen) (hI : IntsAt w p l) (hent : ∀ (args : Array Value) (w : World), (callFunc fn args).run Tryz.prog w = .ok (.enter fn args) w)
   (hcl : ∀ wr, Below w.heap.size w wr → ∀ i (h : i < l.length), Calls Tryz.prog fn #[.int .i64 l[i]] wr fun e w' => e = .returned (.bool (f l[i])) ∧ Below wr.heap.size wr w') :
   Calls Tryz.prog 18 #[.slice p l.length cap, .func (.func fn) #[] #[]] w fun e w' => e = .returned (.bool (l.any f)) ∧ Below w.heap.size w w' := by
 have HC := fun _ : Unit => indexFunc0_any fn f l p cap w hl hI hent hcl
 have HG : Hid _ := findE_ge f l
 have HCC : Hid _ := HC
 clear HC hcl hent
 generalize findE f l = x at *
 go_enter Tryz.func18, Tryz.ntmps18
 go_wp2_with fail
 refine (HCC.out ()).mono ?_
 rintro e w' ⟨rfl, hb2⟩
 go_wp2
 go_ret
 exact ⟨ret_bool HG.out, hb2⟩
theorem enter16 (args : Array Value) (w : World) : (callFunc 16 args).run Tryz.prog w = .ok (.enter 16 args) w := by kernel_rfl
def hangI (x : Int) : Bool := x != -1 && x / 2 != 0
set_option maxHeartbeats 1000000 in
theorem hang1_any (x : Int) (hx : x = -1 ∨ 0 ≤ x ∧ x ≤ 100000000) (w : World) :
   Calls Tryz.prog 16 #[.int .i64 x] w fun e w' => e = .returned (.bool (hangI x)) ∧ Below w.heap.size w w' := by
 have HE : Hid (hangI x = (x != -1 && x / 2 != 0)) := rfl
 generalize hangI x = R at *
 by_cases h : x = -1
 · have HX : Hid (R = false) := by unfold Hid; rw [HE.out, h]; rfl
   subst h
   clear HE
   go_enter Tryz.func16, Tryz.ntmps16
   go_wp2
   go_ret
   exact ⟨ret_bool HX.out.symm, Below.refl _ _⟩
 · have h2 := hx.resolve_left h
   have hb : (x != -1) = true := by simpa using h
   have HX : Hid (R = (x / 2 != 0)) := by unfold Hid; rw [HE.out, hb]; rfl
   have HN := hide (node_any x h2.1 (by omega) w)
   clear HE hx h
   go_enter Tryz.func16, Tryz.ntmps16
   go_wp2_with fail
   refine HN.out.mono ?_
   rintro e w1 ⟨rfl, hw⟩
   obtain rfl : w = w1 := hw.symm
   go_wp2
   go_ret
   exact ⟨ret_bool HX.out.symm, Below.refl _ _⟩
structure CIn (w : World) (C : Ci) : Prop where
 at' : CirAt w C.p C.ps C.i C.n C.b C.h
 wf : WfP C.ps
 pl : C.ps.length ≤ 8796093022208
 wa : Wf C.a
 ws : Wf C.s
 il : C.i.ns.length ≤ maxLen
 nl : C.n.ns.length ≤ maxLen
 bl : C.b.ns.length ≤ 2000000
 hl : C.h.ns.length ≤ 2000000
theorem CIn.later {w w1 : World} {C : Ci} (h : CIn w C) (hb : Below w.heap.size w w1) : CIn w1 C := ⟨h.at'.later hb, h.wf, h.pl, h.wa, h.ws, h.il, h.nl, h.bl, h.hl⟩
def Ci.e (C : Ci) : Int := cirE C.ins C.ps C.a C.s C.i.ns C.n.ns C.b.ns C.h.ns
theorem noLit_all {e : Int} {l : List Int} (h : l.any (noLit e) = false) : ∀ x ∈ l, 0 ≤ x ∧ x < e := fun x hx => by
 have := List.any_eq_false.1 h x hx
 simp [noLit] at this
 omega
theorem co_of {w : World} {C : Ci} (h : CIn w C) (he : C.e = 0) (last : Nat) (hla : last ≤ 40) : CO w C last := by
 unfold Ci.e cirE at he
 by_cases h1 : chkE C.ins C.ps = 0
 · rw [if_neg (by simpa using h1)] at he
   obtain ⟨i0, i1, pl, st, _⟩ := chk_zero h1
   by_cases h2 : C.a < 0 ∨ C.s < 0 ∨ C.a + C.s ≠ C.ins
   · rw [if_pos h2] at he; cases he
   · rw [if_neg h2] at he
     by_cases h3 : (C.i.ns.length : Int) ≠ C.s ∨ (C.n.ns.length : Int) ≠ C.s
     · rw [if_pos h3] at he; cases he
     · rw [if_neg h3] at he
       by_cases h4 : (C.i.ns.any (badI (2 * (1 + C.ins + C.ps.length))) || C.n.ns.any (noLit (2 * (1 + C.ins + C.ps.length))) || C.b.ns.any (noLit (2 * (1 + C.ins + C.ps.length))) || C.h.ns.any (noLit (2 * (1 + C.ins + C.ps.length)))) = true
       · rw [if_pos h4] at he; cases he
       · simp only [Bool.not_eq_true, Bool.or_eq_false_iff] at h4
         obtain ⟨⟨⟨k1, k2⟩, k3⟩, k4⟩ := h4
         have hf : 1 + C.ins + (C.ps.length : Int) = 1 + C.f := by unfold Ci.f; omega
         rw [hf] at k1 k2 k3 k4
         refine ⟨h.at', i0, i1, by omega, by omega, by omega, by omega, by omega, fun k hk => ?_, fun x hx => ?_, noLit_all k2, noLit_all k3, noLit_all k4, hla, h.bl, h.hl, by omega⟩
         · have := stN_down (k := k + 1) st (by omega)
           rw [stN_succ hk, Bool.and_eq_true] at this
           exact this.2
         · have := List.any_eq_false.1 k1 x hx
           simp [badI, noLit] at this
           omega
 · rw [if_pos (by simpa using h1)] at he
   exact absurd he h1
def NewO (w : World) (C : Ci) (steps : Int) (e : Ending) (w' : World) : Prop :=
 Below w.heap.size w w' ∧ ((C.e ≠ 0 ∧ e = .returned (.tuple #[.pointer none, .int .i64 C.e])) ∨ (C.e = 0 ∧ (steps < 0 ∨ 40 < steps) ∧ e = .returned (.tuple #[.pointer none, .int .i64 3])) ∨
   (C.e = 0 ∧ 0 ≤ steps ∧ steps ≤ 40 ∧ ∃ M, e = .returned (.tuple #[.pointer (some ⟨M, 0, none⟩), .int .i64 0]) ∧ Un w w' M (.slice none 0 0) 0 [] C steps.toNat))
set_option maxHeartbeats 4000000 in
theorem newU_any (C : Ci) (steps : Int) (w : World) (hC : CIn w C) : Calls Tryz.prog 10 #[C.v, .int .i64 steps] w (NewO w C steps) := by
 have hb1 : Below w.heap.size w (w.alloc (.cells #[.int .i64 C.ins, .slice C.p C.ps.length C.cap, .int .i64 C.a, .int .i64 C.s, C.i.v, C.n.v, C.b.v, C.h.v] 27)) := bal (Below.refl _ _) _
 have hC1 := hC.later hb1
 have HCK := hide (checkB_any C.ins C.p C.cap C.ps hC.wf hC.pl C.a C.s hC.wa hC.ws C.i C.n C.b C.h hC.il hC.nl (by have := hC.bl; unfold maxLen; omega) (by have := hC.hl; unfold maxLen; omega) _ hC1.at')
 have HG : Hid ((w.alloc (.cells #[.int .i64 C.ins, .slice C.p C.ps.length C.cap, .int .i64 C.a, .int .i64 C.s, C.i.v, C.n.v, C.b.v, C.h.v] 27)).heap[w.heap.size]? = some (.cells #[.int .i64 C.ins, .slice C.p C.ps.length C.cap, .int .i64 C.a, .int .i64 C.s, C.i.v, C.n.v, C.b.v, C.h.v] 27)) := alloc_at rfl
 have hE : cirE C.ins C.ps C.a C.s C.i.ns C.n.ns C.b.ns C.h.ns = C.e := rfl
 rw [hE] at HCK
 have HB1 := hide hb1
 clear hC hC1 hb1 hE
 simp only [Sl.v] at *
 go_enter Tryz.func10, Tryz.ntmps10
 go_wp2_with fail
 generalize w.alloc (.cells #[.int .i64 C.ins, .slice C.p C.ps.length C.cap, .int .i64 C.a, .int .i64 C.s, .slice C.i.at' C.i.ns.length C.i.cap, .slice C.n.at' C.n.ns.length C.n.cap, .slice C.b.at' C.b.ns.length C.b.cap, .slice C.h.at' C.h.ns.length C.h.cap] 27) = w1 at *
 refine HCK.out.mono ?_
 rintro e w2 ⟨rfl, hb2⟩
 have HB2 := hide (bthen HB1.out hb2)
 have hG2 := (hb2.block _ (Array.getElem?_eq_some_iff.1 HG.out).1).trans HG.out
 have x0 : w2.cell? ⟨w.heap.size, 0, none⟩ = some (.int .i64 C.ins) := by rw [Lib.cell_of_heap hG2]; rfl
 have x1 : w2.cell? ⟨w.heap.size, 1, none⟩ = some (.slice C.p C.ps.length C.cap) := by rw [Lib.cell_of_heap hG2]; rfl
 have x2 : w2.cell? ⟨w.heap.size, 2, none⟩ = some (.int .i64 C.a) := by rw [Lib.cell_of_heap hG2]; rfl
 have x3 : w2.cell? ⟨w.heap.size, 3, none⟩ = some (.int .i64 C.s) := by rw [Lib.cell_of_heap hG2]; rfl
 have x4 : w2.cell? ⟨w.heap.size, 4, none⟩ = some (.slice C.i.at' C.i.ns.length C.i.cap) := by rw [Lib.cell_of_heap hG2]; rfl
 have x5 : w2.cell? ⟨w.heap.size, 5, none⟩ = some (.slice C.n.at' C.n.ns.length C.n.cap) := by rw [Lib.cell_of_heap hG2]; rfl
 have x6 : w2.cell? ⟨w.heap.size, 6, none⟩ = some (.slice C.b.at' C.b.ns.length C.b.cap) := by rw [Lib.cell_of_heap hG2]; rfl
 have x7 : w2.cell? ⟨w.heap.size, 7, none⟩ = some (.slice C.h.at' C.h.ns.length C.h.cap) := by rw [Lib.cell_of_heap hG2]; rfl
 clear hb2 hG2 HCK HG HB1
 by_cases he : C.e = 0
 · have HE0 := hide he
   rw [he]
   by_cases h0 : steps < 0
   · have HEND : Hid (NewO w C steps (.returned (.tuple #[.pointer none, .int .i64 3])) w2) := ⟨HB2.out, Or.inr (Or.inl ⟨he, Or.inl h0, rfl⟩)⟩
     clear he x0 x1 x2 x3 x4 x5 x6 x7
     go_wp2
     go_ret2
     exact HEND.out
   · by_cases h40 : 40 < steps
     · have HEND : Hid (NewO w C steps (.returned (.tuple #[.pointer none, .int .i64 3])) w2) := ⟨HB2.out, Or.inr (Or.inl ⟨he, Or.inr h40, rfl⟩)⟩
       clear he x0 x1 x2 x3 x4 x5 x6 x7
       go_wp2
       go_ret2
       exact HEND.out
     · have HEND : Hid (NewO w C steps (.returned (.tuple #[.pointer (some ⟨w2.heap.size, 0, none⟩), .int .i64 0])) (w2.alloc (.cells #[.int .i64 0, .slice none 0 0, .int .i64 C.ins, .slice C.p C.ps.length C.cap, .int .i64 C.a, .int .i64 C.s, .slice C.i.at' C.i.ns.length C.i.cap, .slice C.n.at' C.n.ns.length C.n.cap, .slice C.b.at' C.b.ns.length C.b.cap, .slice C.h.at' C.h.ns.length C.h.cap, .int .i64 steps] 71))) := by
         have hst : ((steps.toNat : Nat) : Int) = steps := by omega
         refine ⟨bal HB2.out _, Or.inr (Or.inr ⟨he, by omega, by omega, w2.heap.size, rfl, ⟨⟨by simp [go_sem], by simp [go_sem], by simp [go_sem], by simp [go_sem], World.ownsRow_nil _ _ _ _, (fun r hr => by cases hr), HB2.out.size, by simp [Value.ownBlock], (fun r hr => by cases hr)⟩, ⟨by simp [go_sem], by simp [go_sem], by simp [go_sem], by simp [go_sem], by simp [go_sem], by simp [go_sem], by simp [go_sem], by simp [go_sem], by rw [hst]; simp [go_sem]⟩, bal HB2.out _⟩⟩)⟩
       clear he
       go_wp2
       go_ret2
       exact HEND.out
 · have HEND : Hid (NewO w C steps (.returned (.tuple #[.pointer none, .int .i64 C.e])) w2) := ⟨HB2.out, Or.inl ⟨he, rfl⟩⟩
   have heb : (C.e != 0) = true := by simpa using he
   clear he x0 x1 x2 x3 x4 x5 x6 x7
   generalize C.e = E at *
   go_wp2
   go_ret2
   exact HEND.out
end Go.Proofs.YtjhkecnnhddhbaaGreatDoor
