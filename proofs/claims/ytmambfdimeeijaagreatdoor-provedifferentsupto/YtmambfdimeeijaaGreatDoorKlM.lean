/- Steps, unrolled: the parts of what states begin as, of what is bad. -/
import Derived.Test.YtmambfdimeeijaaGreatDoorKiM
import Derived.Deep.CutRange
namespace Go.Proofs.YtmambfdimeeijaaGreatDoor
open Go.RowKit Go.Maps Go.WideMaps
set_option maxRecDepth 100000
theorem begins_makes (w0 : World) (M : Nat) (C : Ci) (last : Nat) (hC : COk w0 C last) (U G : Nat) (cs : Int) :
   Makes w0 M C last ⟨0, cs, 161, #[.pointer (some ⟨G, 0, none⟩), .pointer (some ⟨U, 0, none⟩)], [(⟨U, 0, none⟩, .pointer (some ⟨M, 0, none⟩)), (⟨G, 0, none⟩, C.i.v)], beginsT C, none⟩ :=
 fun w v vars rs h1 h2 h3 _ _ _ => beginsMake_any w0 M C last hC U G w v vars rs h1 h2 h3
theorem bad_makes (w0 : World) (M : Nat) (C : Ci) (last : Nat) (hC : COk w0 C last) (U : Nat) (cs : Int) :
   Makes w0 M C last ⟨0, cs, 54, #[.pointer (some ⟨U, 0, none⟩)], [(⟨U, 0, none⟩, .pointer (some ⟨M, 0, none⟩))], [badN C last C.b.ns.length], none⟩ :=
 fun w v vars rs h1 h2 h3 _ _ _ => badMake_any w0 M C last hC U w v vars rs h1 h2 h3
set_option maxHeartbeats 1000000 in
theorem none_makes (w0 : World) (M : Nat) (C : Ci) (last : Nat) (cs : Int) : Makes w0 M C last ⟨0, cs, 53, #[], [], [], none⟩ := by
 intro w v vars rs h1 h2 h3 _ _ _
 have HE := hide (show MkOut w0 w M v vars rs [] C last (.returned (.tuple #[])) w from ⟨rfl, v, rs, by simp, h1, Kp.refl _ _ _⟩)
 simp only
 clear h1 h2 h3
 go_enter Tryz.func53, Tryz.ntmps53
 go_wp2
 go_end0
 exact HE.out
set_option maxHeartbeats 8000000 in
theorem begins_any (w0 : World) (M : Nat) (C : Ci) (last : Nat) (hC : CO w0 C last) (w : World) (v : Value) (vars : Int) (rs : List Row) (hU : Un w0 w M v vars rs C last) :
   Calls Tryz.prog 133 #[.pointer (some ⟨M, 0, none⟩)] w (PtOut w0 w M v C last 0 (cntB (-1) C.i.ns C.i.ns.length : Nat) (beginsT C) none) := by
 have hil := hC.il
 have hsm := hC.sm
 have hi1 := hC.i1
 have ha0 := hC.a0
 have HNW := hide (fun g (hg : w.heap.size ≤ g) => hU.new hg)
 have HMK := hide (fun U G cs (hv : ((last : Int) + 1) * C.f ≤ 200000) => begins_makes w0 M C last ⟨hC, hv⟩ U G cs)
 have u7 := hU.un.u6
 have HI := hide (hC.at'.i.later hU.bl)
 have HB := hide (beg w M C.i.v 25)
 have x7 := cell_later HB.out.b2 u7
 have y0 := HB.out.c0
 have y2 := HB.out.c2
 have HR := hide (r45 HB.out.g1)
 have HB3 := hide HB.out.b3
 have HI3 := hide (HI.out.later HB.out.b3)
 clear hC hU HB u7
 simp only [Sl.v] at *
 go_enter Tryz.func133, Tryz.ntmps133
 go_wp2_with fail
 generalize ((w.alloc (.cells #[.pointer (some ⟨M, 0, none⟩)] 58)).alloc (.cells #[.int .i64 0, .int .i64 0, .nilFunc] 65)).alloc (.cells #[.slice C.i.at' C.i.ns.length C.i.cap] 25) = w3 at *
 refine (besides_any (-1) C.i.ns C.i.at' C.i.cap (by omega) w3 HI3.out).mono ?_
 rintro e w4 ⟨rfl, hw⟩
 obtain rfl : w3 = w4 := hw.symm
 obtain ⟨q0, q1, q2, f0, f1, f2⟩ := HR.out.1
 generalize cntB (-1) C.i.ns C.i.ns.length = Z at *
 have HBX : Hid (Bxs w3 v M [(⟨w.heap.size, 0, none⟩, .pointer (some ⟨M, 0, none⟩)), (⟨w.heap.size + 1 + 1, 0, none⟩, .slice C.i.at' C.i.ns.length C.i.cap)]) := fun q x hq => by
   simp only [List.mem_cons, List.mem_nil_iff, or_false, Prod.mk.injEq] at hq
   rcases hq with ⟨rfl, rfl⟩ | ⟨rfl, rfl⟩
   · exact ⟨y0, HNW.out _ (Nat.le_refl _)⟩
   · exact ⟨y2, HNW.out _ (by simp; omega)⟩
 have HEND : Hid (PtOut w0 w M v C last 0 Z (beginsT C) none (.returned (.agg #[.int .i64 0, .int .i64 Z, .func (.func 161) #[] #[.pointer (some ⟨w.heap.size + 1 + 1, 0, none⟩), .pointer (some ⟨w.heap.size, 0, none⟩)]])) (set3 w3 (w.heap.size + 1) (.int .i64 0) (.int .i64 Z) (.func (.func 161) #[] #[.pointer (some ⟨w.heap.size + 1 + 1, 0, none⟩), .pointer (some ⟨w.heap.size, 0, none⟩)]))) :=
   ⟨_, rfl, rfl, rfl, rfl, rfl, set3_below HB3.out (by omega) _ _ _, set3_bxs HBX.out (fun q x hq => by
     simp only [List.mem_cons, List.mem_nil_iff, or_false, Prod.mk.injEq] at hq
     rcases hq with ⟨rfl, rfl⟩ | ⟨rfl, rfl⟩ <;> simp) _ _ _, HMK.out w.heap.size (w.heap.size + 1 + 1) Z, enter51⟩
 clear x7 y0 y2 HB3 HBX HMK HNW HI3 HI hw
 go_wp2
 refine bodyPost_ret (results_cell_row rfl _ _ (w.heap.size + 1) 65 _ _ _ rfl (HR.out.2 _ _ _) Tryz.underlying65 rfl (by kernel_rfl)) rfl ?_
 exact HEND.out
def badC (C : Ci) (last : Nat) : List (List Int) := if (1 : Int) ∈ C.b.ns then [] else [badN C last C.b.ns.length]
set_option maxHeartbeats 8000000 in
theorem bad_any (w0 : World) (M : Nat) (C : Ci) (last : Nat) (hC : CO w0 C last) (w : World) (v : Value) (vars : Int) (rs : List Row) (hU : Un w0 w M v vars rs C last) :
   Calls Tryz.prog 28 #[.pointer (some ⟨M, 0, none⟩)] w (PtOut w0 w M v C last 0 ((badC C last).length : Nat) (badC C last) none) := by
 have hbl := hC.bl
 have HNW := hide (fun g (hg : w.heap.size ≤ g) => hU.new hg)
 have HMK := hide (fun U cs (hv : ((last : Int) + 1) * C.f ≤ 200000) => bad_makes w0 M C last ⟨hC, hv⟩ U cs)
 have HI := hide (hC.at'.b.later hU.bl)
 have hb2 : Below w.heap.size w ((w.alloc (.cells #[.pointer (some ⟨M, 0, none⟩)] 58)).alloc (.cells #[.int .i64 0, .int .i64 0, .nilFunc] 65)) := bal (bal (Below.refl _ _) _) _
 have x8 := cell_later hb2 hU.un.u8
 have y0 : ((w.alloc (.cells #[.pointer (some ⟨M, 0, none⟩)] 58)).alloc (.cells #[.int .i64 0, .int .i64 0, .nilFunc] 65)).cell? ⟨w.heap.size, 0, none⟩ = some (.pointer (some ⟨M, 0, none⟩)) := by simp [go_sem]
 have hg : ((w.alloc (.cells #[.pointer (some ⟨M, 0, none⟩)] 58)).alloc (.cells #[.int .i64 0, .int .i64 0, .nilFunc] 65)).heap[w.heap.size + 1]? = some (.cells #[.int .i64 0, .int .i64 0, .nilFunc] 65) := alloc_at (by simp)
 have HR := hide (r45 hg)
 have HB2 := hide hb2
 have HI3 := hide (HI.out.later hb2)
 have HD : Hid (badC C last = if (1 : Int) ∈ C.b.ns then [] else [badN C last C.b.ns.length]) := rfl
 clear hC hU hb2 hg
 simp only [Sl.v] at *
 go_enter Tryz.func28, Tryz.ntmps28
 go_wp2_with fail
 generalize (w.alloc (.cells #[.pointer (some ⟨M, 0, none⟩)] 58)).alloc (.cells #[.int .i64 0, .int .i64 0, .nilFunc] 65) = w3 at *
 refine (containsI_any 1 C.b.ns C.b.at' C.b.cap (by omega) w3 HI3.out).mono ?_
 rintro e w4 ⟨rfl, hw⟩
 obtain rfl : w3 = w4 := hw.symm
 obtain ⟨q0, q1, q2, f0, f1, f2⟩ := HR.out.1
 by_cases h1 : (1 : Int) ∈ C.b.ns
 · have HE : Hid (badC C last = []) := by unfold Hid; rw [HD.out, if_pos h1]
   have hd : decide ((1 : Int) ∈ C.b.ns) = true := by simpa using h1
   rw [hd]
   have HEND : Hid (PtOut w0 w M v C last 0 ((([] : List (List Int)).length : Nat) : Int) [] none (.returned (.agg #[.int .i64 0, .int .i64 0, .func (.func 53) #[] #[]])) (set3 w3 (w.heap.size + 1) (.int .i64 0) (.int .i64 0) (.func (.func 53) #[] #[]))) :=
     ⟨⟨0, 0, 53, #[], [], [], none⟩, rfl, rfl, rfl, rfl, rfl, set3_below HB2.out (by omega) _ _ _, fun q x hq => by simp at hq, fun _ => none_makes w0 M C last 0, enter46⟩
   clear x8 y0 HB2 HMK HNW HI3 HI hw HD h1 hd
   go_wp2
   refine bodyPost_ret (results_cell_row rfl _ _ (w.heap.size + 1) 65 _ _ _ rfl (HR.out.2 _ _ _) Tryz.underlying65 rfl (by kernel_rfl)) rfl ?_
   rw [HE.out]
   exact HEND.out
 · have HE : Hid (badC C last = [badN C last C.b.ns.length]) := by unfold Hid; rw [HD.out, if_neg h1]
   have hd : decide ((1 : Int) ∈ C.b.ns) = false := by simpa using h1
   rw [hd]
   have HBX : Hid (Bxs w3 v M [(⟨w.heap.size, 0, none⟩, .pointer (some ⟨M, 0, none⟩))]) := fun q x hq => by
     simp only [List.mem_cons, List.mem_nil_iff, or_false, Prod.mk.injEq] at hq
     rcases hq with ⟨rfl, rfl⟩
     exact ⟨y0, HNW.out _ (Nat.le_refl _)⟩
   have HEND : Hid (PtOut w0 w M v C last 0 (([badN C last C.b.ns.length].length : Nat) : Int) [badN C last C.b.ns.length] none (.returned (.agg #[.int .i64 0, .int .i64 1, .func (.func 54) #[] #[.pointer (some ⟨w.heap.size, 0, none⟩)]])) (set3 w3 (w.heap.size + 1) (.int .i64 0) (.int .i64 1) (.func (.func 54) #[] #[.pointer (some ⟨w.heap.size, 0, none⟩)]))) :=
     ⟨_, rfl, rfl, rfl, rfl, rfl, set3_below HB2.out (by omega) _ _ _, set3_bxs HBX.out (fun q x hq => by
       simp only [List.mem_cons, List.mem_nil_iff, or_false, Prod.mk.injEq] at hq
       rcases hq with ⟨rfl, rfl⟩
       simp) _ _ _, HMK.out w.heap.size 1, enter47⟩
   clear x8 y0 HB2 HMK HNW HI3 HI hw HD h1 hd HBX
   go_wp2
   refine bodyPost_ret (results_cell_row rfl _ _ (w.heap.size + 1) 65 _ _ _ rfl (HR.out.2 _ _ _) Tryz.underlying65 rfl (by kernel_rfl)) rfl ?_
   rw [HE.out]
   exact HEND.out
end Go.Proofs.YtmambfdimeeijaaGreatDoor

namespace Go.Proofs.YtmambfdimeeijaaGreatDoor
open Go.RowKit Go.Maps Go.WideMaps
set_option maxRecDepth 100000
set_option maxHeartbeats 8000000 in
theorem holds_any (w0 : World) (M : Nat) (C : Ci) (last : Nat) (hC : CO w0 C last) (w : World) (v : Value) (vars : Int) (rs : List Row) (hU : Un w0 w M v vars rs C last) :
   Calls Tryz.prog 27 #[.pointer (some ⟨M, 0, none⟩)] w (PtOut w0 w M v C last 0 ((last + 1) * cntB 1 C.h.ns C.h.ns.length : Nat) (stepsL (holdsT C) (last + 1)) none) := by
 have hla := hC.la
 have hhl := hC.hl
 have HNW := hide (fun g (hg : w.heap.size ≤ g) => hU.new hg)
 have hMl := World.block_lt_of_cell? _ _ hU.cm.c0
 simp only at hMl
 have HMK := hide (fun U G S A cs (hv : ((last : Int) + 1) * C.f ≤ 200000) => holds_makes w0 M C last ⟨hC, hv⟩ U G S A cs)
 have u7 := hU.un.u9
 have u10 := hU.un.u10
 have HI := hide (hC.at'.h.later hU.bl)
 have HB := hide (beg w M C.h.v 25)
 have x7 := cell_later HB.out.b2 u7
 have y10 := cell_later HB.out.b3 u10
 have y0 := HB.out.c0
 have y2 := HB.out.c2
 have HG := hide HB.out.g1
 have HB3 := hide HB.out.b3
 have hs3 := HB.out.s3
 have HI3 := hide (HI.out.later HB.out.b3)
 clear hC hU HB
 simp only [Sl.v] at *
 go_enter Tryz.func27, Tryz.ntmps27
 go_wp2
 generalize ((w.alloc (.cells #[.pointer (some ⟨M, 0, none⟩)] 58)).alloc (.cells #[.int .i64 0, .int .i64 0, .nilFunc] 65)).alloc (.cells #[.slice C.h.at' C.h.ns.length C.h.cap] 25) = w3 at *
 clear x7 u7 u10
 have hbd : Below w3.heap.size w3 w3.drew := (Below.refl _ w3).drew
 have hc1 := cntB_le 1 C.h.ns C.h.ns.length
 have HBS := hide (besides_any 1 C.h.ns C.h.at' C.h.cap (by omega) w3.drew (HI3.out.later hbd))
 generalize cntB 1 C.h.ns C.h.ns.length = n1 at *
 have HES := hide (eachStep_any (last + 1) (by omega) n1 (by omega) 50 (.pointer (some ⟨w.heap.size + 1 + 1, 0, none⟩)) (.pointer (some ⟨w.heap.size, 0, none⟩)) w3.drew)
 have hs4 : w3.drew.heap.size = w.heap.size + 3 := hs3
 rw [hs4] at HES
 generalize hZ : (last + 1) * n1 = Z at *
 rw [show ((last + 1 : Nat) : Int) = (last : Int) + 1 by omega] at HES HMK
 have wl := wrap_id (x := (last : Int) + 1) (by omega) (by omega)
 go_region_held3 (fun w' => w'.cell? ⟨w.heap.size, 0, none⟩ = some (.pointer (some ⟨M, 0, none⟩)) ∧ w'.cell? ⟨w.heap.size + 1 + 1, 0, none⟩ = some (.slice C.h.at' C.h.ns.length C.h.cap) ∧ w'.cell? ⟨M, 10, none⟩ = some (.int .i64 last))
   (first | exact ⟨cell_set_far (cell_set_far (cell_set_far (cell_later hb5' y0) (by simp)) (by simp)) (by simp), cell_set_far (cell_set_far (cell_set_far (cell_later hb5' y2) (by simp)) (by simp)) (by simp), cell_set_far (cell_set_far (cell_set_far (cell_later hb5' y10) (by simp; omega)) (by simp; omega)) (by simp; omega)⟩ | exact ⟨cell_later hb5' y0, cell_later hb5' y2, cell_later hb5' y10⟩ | exact ⟨cell_later hbd y0, cell_later hbd y2, cell_later hbd y10⟩ | go_keep)
   (first
     | (go_at_call 41; refine HES.out.mono ?_; rintro e w5 ⟨rfl, e1, e2, hb5⟩; have hb5' : Below w3.heap.size w3 w5 := by { rw [hs3]; exact (show Below (w.heap.size + 3) w3 w3.drew from by rw [← hs3]; exact hbd).trans hb5 }; have HR := hide (r45 ((hb5'.block (w.heap.size + 1) (by omega)).trans HG.out)); obtain ⟨q0, q1, q2, f0, f1, f2⟩ := HR.out.1)
     | (go_at_call 46; refine HBS.out.mono ?_; rintro e w' ⟨rfl, hw'⟩; subst hw'))
 all_goals
   have HBX : Hid (Bxs w5 v M [(⟨w.heap.size + 3, 0, none⟩, .int .i64 ((last : Int) + 1)), (⟨w.heap.size + 3 + 1, 0, none⟩, .func (.func 50) #[] #[.pointer (some ⟨w.heap.size + 1 + 1, 0, none⟩), .pointer (some ⟨w.heap.size, 0, none⟩)]), (⟨w.heap.size, 0, none⟩, .pointer (some ⟨M, 0, none⟩)), (⟨w.heap.size + 1 + 1, 0, none⟩, .slice C.h.at' C.h.ns.length C.h.cap)]) := fun q x hq => by
     simp only [List.mem_cons, List.mem_nil_iff, or_false, Prod.mk.injEq] at hq
     rcases hq with ⟨rfl, rfl⟩ | ⟨rfl, rfl⟩ | ⟨rfl, rfl⟩ | ⟨rfl, rfl⟩
     · exact ⟨e1, HNW.out _ (by simp)⟩
     · exact ⟨e2, HNW.out _ (by simp; omega)⟩
     · exact ⟨cell_later hb5' y0, HNW.out _ (Nat.le_refl _)⟩
     · exact ⟨cell_later hb5' y2, HNW.out _ (by simp; omega)⟩
   have HB5 := hide (bthen HB3.out hb5')
   have HEND : Hid (PtOut w0 w M v C last 0 Z (stepsL (holdsT C) (last + 1)) none (.returned (.agg #[.int .i64 0, .int .i64 Z, .func (.func 78) #[] #[.pointer (some ⟨w.heap.size + 3, 0, none⟩), .pointer (some ⟨w.heap.size + 3 + 1, 0, none⟩)]])) (set3 w5 (w.heap.size + 1) (.int .i64 0) (.int .i64 Z) (.func (.func 78) #[] #[.pointer (some ⟨w.heap.size + 3, 0, none⟩), .pointer (some ⟨w.heap.size + 3 + 1, 0, none⟩)]))) :=
     ⟨_, rfl, rfl, rfl, rfl, rfl, set3_below HB5.out (by omega) _ _ _, set3_bxs HBX.out (fun q x hq => by
       simp only [List.mem_cons, List.mem_nil_iff, or_false, Prod.mk.injEq] at hq
       rcases hq with ⟨rfl, rfl⟩ | ⟨rfl, rfl⟩ | ⟨rfl, rfl⟩ | ⟨rfl, rfl⟩ <;> simp <;> omega) _ _ _, HMK.out w.heap.size (w.heap.size + 1 + 1) _ _ Z, enter65⟩
   rename_i hHeld
   clear hHeld hb5 hb5' e1 e2 y0 y2 y10 HG HB3 HES HBX HB5 HMK HNW HBS HI HI3
   go_wp2
   refine bodyPost_ret (results_cell_row rfl _ _ (w.heap.size + 1) 65 _ _ _ rfl (HR.out.2 _ _ _) Tryz.underlying65 rfl (by kernel_rfl)) rfl ?_
   exact HEND.out
end Go.Proofs.YtmambfdimeeijaaGreatDoor

namespace Go.Proofs.YtmambfdimeeijaaGreatDoor
open Go.RowKit Go.Maps Go.WideMaps
set_option maxRecDepth 100000
structure Fp (w W : World) (M : Nat) (C : Ci) (last P S A : Nat) (Z : Int) : Prop where
 b : Below w.heap.size w W
 x0 : W.cell? ⟨w.heap.size, 0, none⟩ = some (.pointer (some ⟨M, 0, none⟩))
 x2 : W.cell? ⟨w.heap.size + 1 + 1, 0, none⟩ = some (.int .i64 C.ins)
 x3 : W.cell? ⟨w.heap.size + 1 + 1, 1, none⟩ = some (.slice C.p C.ps.length C.cap)
 g1 : W.heap[w.heap.size + 1]? = some (.cells #[.int .i64 0, .int .i64 0, .nilFunc] 65)
 un : UnC W M C last
 s : W.cell? ⟨S, 0, none⟩ = some (.int .i64 ((last : Int) + 1))
 a : W.cell? ⟨A, 0, none⟩ = some (.func (.func 42) #[] #[.pointer (some ⟨w.heap.size, 0, none⟩), .pointer (some ⟨w.heap.size + 1 + 1, 0, none⟩)])
 p : W.heap[P]? = some (.cells #[.int .i64 0, .int .i64 Z, .func (.func 78) #[] #[.pointer (some ⟨S, 0, none⟩), .pointer (some ⟨A, 0, none⟩)]] 65)
 hs : w.heap.size + 3 ≤ S
 ha : w.heap.size + 3 ≤ A
 hp : w.heap.size + 3 ≤ P
 ps : P ≠ S
 pa : P ≠ A
structure Fq (w w3 : World) (M : Nat) (C : Ci) (last : Nat) : Prop where
 b : Below w.heap.size w w3
 x0 : w3.cell? ⟨w.heap.size, 0, none⟩ = some (.pointer (some ⟨M, 0, none⟩))
 x2 : w3.cell? ⟨w.heap.size + 1 + 1, 0, none⟩ = some (.int .i64 C.ins)
 x3 : w3.cell? ⟨w.heap.size + 1 + 1, 1, none⟩ = some (.slice C.p C.ps.length C.cap)
 g1 : w3.heap[w.heap.size + 1]? = some (.cells #[.int .i64 0, .int .i64 0, .nilFunc] 65)
 un : UnC w3 M C last
 hs : w3.heap.size = w.heap.size + 3
theorem fp_alloc {w w3 w5 : World} {M : Nat} {C : Ci} {last S A : Nat} {Z : Int} (h : Fq w w3 M C last) (hb5 : Below w3.heap.size w3 w5) (e1 : w5.cell? ⟨S, 0, none⟩ = some (.int .i64 ((last : Int) + 1)))
   (e2 : w5.cell? ⟨A, 0, none⟩ = some (.func (.func 42) #[] #[.pointer (some ⟨w.heap.size, 0, none⟩), .pointer (some ⟨w.heap.size + 1 + 1, 0, none⟩)])) (hS : w3.heap.size ≤ S) (hA : w3.heap.size ≤ A) :
   Fp w (w5.alloc (.cells #[.int .i64 0, .int .i64 Z, .func (.func 78) #[] #[.pointer (some ⟨S, 0, none⟩), .pointer (some ⟨A, 0, none⟩)]] 65)) M C last w5.heap.size S A Z := by
 have hs := h.hs
 have hz := hb5.size
 have h1 := World.block_lt_of_cell? _ _ e1
 have h2 := World.block_lt_of_cell? _ _ e2
 simp only at h1 h2
 have hb6 : Below w5.heap.size w5 (w5.alloc (.cells #[.int .i64 0, .int .i64 Z, .func (.func 78) #[] #[.pointer (some ⟨S, 0, none⟩), .pointer (some ⟨A, 0, none⟩)]] 65)) := bal (Below.refl _ _) _
 have hb : Below w3.heap.size w3 (w5.alloc (.cells #[.int .i64 0, .int .i64 Z, .func (.func 78) #[] #[.pointer (some ⟨S, 0, none⟩), .pointer (some ⟨A, 0, none⟩)]] 65)) := bthen hb5 hb6
 exact ⟨bthen h.b hb, cell_later hb h.x0, cell_later hb h.x2, cell_later hb h.x3, (hb.block _ (by omega)).trans h.g1, h.un.later hb, cell_later hb6 e1, cell_later hb6 e2, alloc_at rfl, by omega, by omega, by omega, by omega, by omega⟩
theorem fp_set {w w3 w5 : World} {M : Nat} {C : Ci} {last : Nat} {Z : Int} (h : Fq w w3 M C last) (hb5 : Below w3.heap.size w3 w5) (e1 : w5.cell? ⟨w3.heap.size + 1, 0, none⟩ = some (.int .i64 ((last : Int) + 1)))
   (e2 : w5.cell? ⟨w3.heap.size + 1 + 1, 0, none⟩ = some (.func (.func 42) #[] #[.pointer (some ⟨w.heap.size, 0, none⟩), .pointer (some ⟨w.heap.size + 1 + 1, 0, none⟩)]))
   (hg : w5.heap[w3.heap.size]? = some (.cells #[.int .i64 0, .int .i64 0, .nilFunc] 65)) :
   Fp w (set3 w5 w3.heap.size (.int .i64 0) (.int .i64 Z) (.func (.func 78) #[] #[.pointer (some ⟨w3.heap.size + 1, 0, none⟩), .pointer (some ⟨w3.heap.size + 1 + 1, 0, none⟩)])) M C last w3.heap.size (w3.heap.size + 1) (w3.heap.size + 1 + 1) Z := by
 have hs := h.hs
 have hz := hb5.size
 have hb : Below w3.heap.size w3 (set3 w5 w3.heap.size (.int .i64 0) (.int .i64 Z) (.func (.func 78) #[] #[.pointer (some ⟨w3.heap.size + 1, 0, none⟩), .pointer (some ⟨w3.heap.size + 1 + 1, 0, none⟩)])) := set3_below hb5 (Nat.le_refl _) _ _ _
 have hc : ∀ {q : Addr} {x : Value}, w5.cell? q = some x → q.block ≠ w3.heap.size → (set3 w5 w3.heap.size (.int .i64 0) (.int .i64 Z) (.func (.func 78) #[] #[.pointer (some ⟨w3.heap.size + 1, 0, none⟩), .pointer (some ⟨w3.heap.size + 1 + 1, 0, none⟩)])).cell? q = some x := fun hq hne => cell_set_far (cell_set_far (cell_set_far hq hne) hne) hne
 exact ⟨bthen h.b hb, cell_later hb h.x0, cell_later hb h.x2, cell_later hb h.x3, (hb.block _ (by omega)).trans h.g1, h.un.later hb, hc e1 (by simp), hc e2 (by simp; omega), (r45 hg).2 _ _ _, by omega, by omega, by omega, by omega, by omega⟩
set_option maxHeartbeats 8000000 in
theorem ands_any (w0 : World) (M : Nat) (C : Ci) (last : Nat) (hC : CO w0 C last) (w : World) (v : Value) (vars : Int) (rs : List Row) (hU : Un w0 w M v vars rs C last) :
   Calls Tryz.prog 25 #[.pointer (some ⟨M, 0, none⟩)] w (PtOut w0 w M v C last (((last + 1 : Nat) : Int) * C.f) ((last + 1) * (3 * C.ps.length) : Nat) (stepsL (fun t => andsT C t C.ps.length) (last + 1)) none) := by
 have hla := hC.la
 have hpl := hC.p1
 have HNW := hide (fun g (hg : w.heap.size ≤ g) => hU.new hg)
 have hMl := World.block_lt_of_cell? _ _ hU.cm.c0
 simp only at hMl
 have HMK := hide (fun U G S A cs (hv : ((last : Int) + 1) * C.f ≤ 200000) => ands_makes w0 M C last ⟨hC, hv⟩ U G S A cs)
 have hb2 : Below w.heap.size w ((w.alloc (.cells #[.pointer (some ⟨M, 0, none⟩)] 58)).alloc (.cells #[.int .i64 0, .int .i64 0, .nilFunc] 65)) := bal (bal (Below.refl _ _) _) _
 have hb3 : Below w.heap.size w (((w.alloc (.cells #[.pointer (some ⟨M, 0, none⟩)] 58)).alloc (.cells #[.int .i64 0, .int .i64 0, .nilFunc] 65)).alloc (.cells #[.int .i64 C.ins, .slice C.p C.ps.length C.cap] 24)) := bal (bal (bal (Below.refl _ _) _) _) _
 have u2 := cell_later hb2 hU.un.u2
 have u3 := cell_later hb2 hU.un.u3
 have HUC := hide (hU.un.later hb3)
 have y0 : (((w.alloc (.cells #[.pointer (some ⟨M, 0, none⟩)] 58)).alloc (.cells #[.int .i64 0, .int .i64 0, .nilFunc] 65)).alloc (.cells #[.int .i64 C.ins, .slice C.p C.ps.length C.cap] 24)).cell? ⟨w.heap.size, 0, none⟩ = some (.pointer (some ⟨M, 0, none⟩)) := by simp [go_sem]
 have y2 : (((w.alloc (.cells #[.pointer (some ⟨M, 0, none⟩)] 58)).alloc (.cells #[.int .i64 0, .int .i64 0, .nilFunc] 65)).alloc (.cells #[.int .i64 C.ins, .slice C.p C.ps.length C.cap] 24)).cell? ⟨w.heap.size + 1 + 1, 0, none⟩ = some (.int .i64 C.ins) := by simp [go_sem]
 have y3 : (((w.alloc (.cells #[.pointer (some ⟨M, 0, none⟩)] 58)).alloc (.cells #[.int .i64 0, .int .i64 0, .nilFunc] 65)).alloc (.cells #[.int .i64 C.ins, .slice C.p C.ps.length C.cap] 24)).cell? ⟨w.heap.size + 1 + 1, 1, none⟩ = some (.slice C.p C.ps.length C.cap) := by simp [go_sem]
 have HG : Hid ((((w.alloc (.cells #[.pointer (some ⟨M, 0, none⟩)] 58)).alloc (.cells #[.int .i64 0, .int .i64 0, .nilFunc] 65)).alloc (.cells #[.int .i64 C.ins, .slice C.p C.ps.length C.cap] 24)).heap[w.heap.size + 1]? = some (.cells #[.int .i64 0, .int .i64 0, .nilFunc] 65)) := ((bal (Below.refl _ ((w.alloc (.cells #[.pointer (some ⟨M, 0, none⟩)] 58)).alloc (.cells #[.int .i64 0, .int .i64 0, .nilFunc] 65))) (.cells #[.int .i64 C.ins, .slice C.p C.ps.length C.cap] 24)).block (w.heap.size + 1) (by simp)).trans (alloc_at (by simp))
 have HB3 := hide hb3
 have hs3 : (((w.alloc (.cells #[.pointer (some ⟨M, 0, none⟩)] 58)).alloc (.cells #[.int .i64 0, .int .i64 0, .nilFunc] 65)).alloc (.cells #[.int .i64 C.ins, .slice C.p C.ps.length C.cap] 24)).heap.size = w.heap.size + 3 := by simp
 have hi0 := hC.i0
 have hi1 := hC.i1
 have HST := hide (fun w => stride_any C.ins C.p C.ps.length C.cap hC.i0 hC.i1 (by omega) (.int .i64 C.a) (.int .i64 C.s) C.i.v C.n.v C.b.v C.h.v w)
 have hfl := hC.lf
 have hfe : C.f = C.ins + C.ps.length := rfl
 clear hC hU hb2 hb3
 simp only [Sl.v] at HST
 go_enter Tryz.func25, Tryz.ntmps25
 go_wp2_with fail
 generalize ((w.alloc (.cells #[.pointer (some ⟨M, 0, none⟩)] 58)).alloc (.cells #[.int .i64 0, .int .i64 0, .nilFunc] 65)).alloc (.cells #[.int .i64 C.ins, .slice C.p C.ps.length C.cap] 24) = w3 at *
 have y10 := HUC.out.u10
 clear u2 u3
 have wl := wrap_id (x := (last : Int) + 1) (by omega) (by omega)
 have w3l := wrap_id (x := 3 * (C.ps.length : Int)) (by omega) (by omega)
 have hbd : Below w3.heap.size w3 w3.drew := (Below.refl _ w3).drew
 have hbA : Below w3.heap.size w3 (w3.alloc (.cells #[.int .i64 0, .int .i64 0, .nilFunc] 65)).drew := (bal (Below.refl _ w3) _).drew
 have HES := hide (fun W => eachStep_any (last + 1) (by omega) (3 * C.ps.length) (by omega) 42 (.pointer (some ⟨w.heap.size, 0, none⟩)) (.pointer (some ⟨w.heap.size + 1 + 1, 0, none⟩)) W)
 generalize hZ : (last + 1) * (3 * C.ps.length) = Z at *
 have hc1 : ((last + 1 : Nat) : Int) = (last : Int) + 1 := by omega
 have hc3 : ((3 * C.ps.length : Nat) : Int) = 3 * (C.ps.length : Int) := by omega
 rw [hc1] at HES
 rw [hc3] at HES
 clear hc1 hc3
 have HQ := hide (show Fq w w3 M C last from ⟨HB3.out, y0, y2, y3, HG.out, HUC.out, hs3⟩)
 have hs3' : w.heap.size + 3 ≤ w3.heap.size := by omega
 clear hs3
 go_upto_region 2 with fail
 go_cut [4] from 10 to 20 (fun s wx => ∃ P S A, s = .pointer (some ⟨P, 0, none⟩) ∧ Hid (Fp w wx M C last P S A Z))
 case first =>
   go_region_held3 (fun w' => w'.cell? ⟨w.heap.size, 0, none⟩ = some (.pointer (some ⟨M, 0, none⟩)) ∧ w'.cell? ⟨w.heap.size + 1 + 1, 1, none⟩ = some (.slice C.p C.ps.length C.cap) ∧ w'.cell? ⟨M, 10, none⟩ = some (.int .i64 last))
     (first | exact ⟨cell_later hb5 y0, cell_later hb5 y3, cell_later hb5 y10⟩ | exact ⟨cell_later hbd y0, cell_later hbd y3, cell_later hbd y10⟩ | exact ⟨cell_later hbA y0, cell_later hbA y3, cell_later hbA y10⟩ | exact ⟨cell_later (bal hb5 _) y0, cell_later (bal hb5 _) y3, cell_later (bal hb5 _) y10⟩ | exact ⟨cell_set_far (cell_set_far (cell_set_far (cell_later hb5 y0) (by simp; omega)) (by simp; omega)) (by simp; omega), cell_set_far (cell_set_far (cell_set_far (cell_later hb5 y3) (by simp; omega)) (by simp; omega)) (by simp; omega), cell_set_far (cell_set_far (cell_set_far (cell_later hb5 y10) (by simp; omega)) (by simp; omega)) (by simp; omega)⟩ | go_keep)
     ((go_at_call 41; refine (HES.out _).mono ?_; rintro e w5 ⟨rfl, e1, e2, hb5'⟩
       first
         | (have hb5 : Below w3.heap.size w3 w5 := bthen hbA hb5'
            have hg5 := (hb5'.block w3.heap.size (by simp)).trans (alloc_at (w := w3) (o := .cells #[.int .i64 0, .int .i64 0, .nilFunc] 65) rfl)
            have HR := hide (r45 hg5)
            obtain ⟨q0, q1, q2, f0, f1, f2⟩ := HR.out.1)
         | (have hb5 : Below w3.heap.size w3 w5 := bthen hbd hb5')))
   all_goals go_wp2_with fail
   all_goals go_meet
   all_goals (first
     | (have hg5' := hg5
        exact ⟨_, _, _, rfl, fp_set HQ.out hb5 (by simpa using e1) (by simpa using e2) hg5'⟩)
     | exact ⟨_, _, _, rfl, fp_alloc HQ.out hb5 e1 e2 (Nat.le_refl _) (Nat.le_succ _)⟩)
 case rest =>
   obtain ⟨P, S, A, rfl, HF⟩ := hcut
   clear HQ hs3' HES hbA hbd wl w3l HG HB3 HUC y0 y2 y3 y10
   obtain ⟨u2, u3, u4, u5, u6, u7, u8, u9, u10⟩ := HF.out.un
   simp only [Sl.v] at u6 u7 u8 u9
   have x0 := HF.out.x0
   have hp := HF.out.hp
   have hbd : Below wc.heap.size wc wc.drew := (Below.refl _ wc).drew
   have wl := wrap_id (x := (last : Int) + 1) (by omega) (by omega)
   have hm : ((last : Int) + 1) * (C.ins + (C.ps.length : Int)) = last * C.f + C.f := by rw [hfe, Int.add_mul]; omega
   have wm := wrap_id (x := ((last : Int) + 1) * (C.ins + (C.ps.length : Int))) (by rw [hm]; omega) (by rw [hm]; omega)
   have hP := (Array.getElem?_eq_some_iff.1 HF.out.p).1
   have HV : Hid (((last + 1 : Nat) : Int) * C.f = ((last : Int) + 1) * (C.ins + (C.ps.length : Int))) := by unfold Hid; rw [hfe, Int.natCast_add, Int.natCast_one]
   clear hm hfl
   rw [HV.out] at HMK
   rw [show ((last + 1 : Nat) : Int) = (last : Int) + 1 by omega] at HMK
   go_upto_region 3 with fail
   go_region_held3 (fun w' => w'.cell? ⟨w.heap.size, 0, none⟩ = some (.pointer (some ⟨M, 0, none⟩)) ∧ w'.cell? ⟨M, 2, none⟩ = some (.int .i64 C.ins) ∧ w'.cell? ⟨M, 3, none⟩ = some (.slice C.p C.ps.length C.cap) ∧ w'.cell? ⟨M, 4, none⟩ = some (.int .i64 C.a) ∧ w'.cell? ⟨M, 5, none⟩ = some (.int .i64 C.s) ∧ w'.cell? ⟨M, 6, none⟩ = some (.slice C.i.at' C.i.ns.length C.i.cap) ∧ w'.cell? ⟨M, 7, none⟩ = some (.slice C.n.at' C.n.ns.length C.n.cap) ∧ w'.cell? ⟨M, 8, none⟩ = some (.slice C.b.at' C.b.ns.length C.b.cap) ∧ w'.cell? ⟨M, 9, none⟩ = some (.slice C.h.at' C.h.ns.length C.h.cap) ∧ w'.cell? ⟨M, 10, none⟩ = some (.int .i64 last))
     (first | exact ⟨cell_later hb6 x0, cell_later hb6 u2, cell_later hb6 u3, cell_later hb6 u4, cell_later hb6 u5, cell_later hb6 u6, cell_later hb6 u7, cell_later hb6 u8, cell_later hb6 u9, cell_later hb6 u10⟩ | exact ⟨cell_later hbd x0, cell_later hbd u2, cell_later hbd u3, cell_later hbd u4, cell_later hbd u5, cell_later hbd u6, cell_later hbd u7, cell_later hbd u8, cell_later hbd u9, cell_later hbd u10⟩ | exact ⟨cell_set_far (cell_later hb6 x0) (by simp; omega), cell_set_far (cell_later hb6 u2) (by simp; omega), cell_set_far (cell_later hb6 u3) (by simp; omega), cell_set_far (cell_later hb6 u4) (by simp; omega), cell_set_far (cell_later hb6 u5) (by simp; omega), cell_set_far (cell_later hb6 u6) (by simp; omega), cell_set_far (cell_later hb6 u7) (by simp; omega), cell_set_far (cell_later hb6 u8) (by simp; omega), cell_set_far (cell_later hb6 u9) (by simp; omega), cell_set_far (cell_later hb6 u10) (by simp; omega)⟩ | go_keep)
     ((go_at_call 43; refine (HST.out _).mono ?_; rintro e w6 ⟨rfl, hb6'⟩; have hb6 : Below wc.heap.size wc w6 := bthen hbd hb6'; have HP := hide (r45 ((hb6.block P hP).trans HF.out.p)); obtain ⟨p0, p1, p2, g0, g1, g2⟩ := HP.out.1))
   all_goals
     rename_i hHeld
     clear hHeld
     generalize ((last : Int) + 1) * (C.ins + (C.ps.length : Int)) = VS at *
     have hg7 := heap_setCell_same _ _ 0 _ _ (.int .i64 VS) ((hb6.block P hP).trans HF.out.p)
     have hcs : ∀ {q : Addr} {x : Value}, wc.cell? q = some x → q.block ≠ P → (w6.setCell ⟨P, 0, none⟩ (.int .i64 VS)).cell? q = some x := fun hq hne => cell_set_far (cell_later hb6 hq) hne
     have hR7 : (w6.setCell ⟨P, 0, none⟩ (.int .i64 VS)).heap[w.heap.size + 1]? = some (.cells #[.int .i64 0, .int .i64 0, .nilFunc] 65) := by
       rw [heap_setCell_other _ _ _ _ (by simp; omega)]
       exact (hb6.block _ (by omega)).trans HF.out.g1
     have HR := hide (r45 hR7)
     obtain ⟨q0, q1, q2, f0, f1, f2⟩ := HR.out.1
     obtain ⟨k0, k1, k2, _, _, _⟩ := (r45 hg7).1
     have HBX : Hid (Bxs (w6.setCell ⟨P, 0, none⟩ (.int .i64 VS)) v M [(⟨S, 0, none⟩, .int .i64 ((last : Int) + 1)), (⟨A, 0, none⟩, .func (.func 42) #[] #[.pointer (some ⟨w.heap.size, 0, none⟩), .pointer (some ⟨w.heap.size + 1 + 1, 0, none⟩)]), (⟨w.heap.size, 0, none⟩, .pointer (some ⟨M, 0, none⟩)), (⟨w.heap.size + 1 + 1, 0, none⟩, .int .i64 C.ins), (⟨w.heap.size + 1 + 1, 1, none⟩, .slice C.p C.ps.length C.cap)]) := fun q x hq => by
       have := HF.out.hs
       have := HF.out.ha
       simp only [List.mem_cons, List.mem_nil_iff, or_false, Prod.mk.injEq] at hq
       rcases hq with ⟨rfl, rfl⟩ | ⟨rfl, rfl⟩ | ⟨rfl, rfl⟩ | ⟨rfl, rfl⟩ | ⟨rfl, rfl⟩
       · exact ⟨hcs HF.out.s HF.out.ps.symm, HNW.out _ (by simp; omega)⟩
       · exact ⟨hcs HF.out.a HF.out.pa.symm, HNW.out _ (by simp; omega)⟩
       · exact ⟨hcs HF.out.x0 (by simp; omega), HNW.out _ (Nat.le_refl _)⟩
       · exact ⟨hcs HF.out.x2 (by simp; omega), HNW.out _ (by simp; omega)⟩
       · exact ⟨hcs HF.out.x3 (by simp; omega), HNW.out _ (by simp; omega)⟩
     have HB7 := hide (((bthen HF.out.b hb6).setCell (p := ⟨P, 0, none⟩) (show w.heap.size ≤ P by omega) (.int .i64 VS)))
     have HEND : Hid (PtOut w0 w M v C last VS Z (stepsL (fun t => andsT C t C.ps.length) (last + 1)) none (.returned (.agg #[.int .i64 VS, .int .i64 Z, .func (.func 78) #[] #[.pointer (some ⟨S, 0, none⟩), .pointer (some ⟨A, 0, none⟩)]])) (set3 (w6.setCell ⟨P, 0, none⟩ (.int .i64 VS)) (w.heap.size + 1) (.int .i64 VS) (.int .i64 Z) (.func (.func 78) #[] #[.pointer (some ⟨S, 0, none⟩), .pointer (some ⟨A, 0, none⟩)]))) :=
       ⟨_, rfl, rfl, rfl, rfl, rfl, set3_below HB7.out (by omega) _ _ _, set3_bxs HBX.out (fun q x hq => by
         have := HF.out.hs
         have := HF.out.ha
         simp only [List.mem_cons, List.mem_nil_iff, or_false, Prod.mk.injEq] at hq
         rcases hq with ⟨rfl, rfl⟩ | ⟨rfl, rfl⟩ | ⟨rfl, rfl⟩ | ⟨rfl, rfl⟩ | ⟨rfl, rfl⟩ <;> simp <;> omega) _ _ _, HMK.out w.heap.size (w.heap.size + 1 + 1) _ _ Z, enter65⟩
     clear hcs hR7 hg7 HBX HB7 HMK HNW p0 p1 p2 g0 g1 g2 HP u2 u3 u4 u5 u6 u7 u8 u9 u10 x0 hb6 hb6' HF hP
     generalize w6.setCell ⟨P, 0, none⟩ (.int .i64 VS) = w7 at *
     go_wp2
     refine bodyPost_ret (results_cell_row rfl _ _ (w.heap.size + 1) 65 _ _ _ rfl (HR.out.2 _ _ _) Tryz.underlying65 rfl (by kernel_rfl)) rfl ?_
     rw [HV.out, hZ]
     exact HEND.out
end Go.Proofs.YtmambfdimeeijaaGreatDoor
