/- Steps, unrolled: the parts of holds and Ands. -/
import Derived.Test.YtjhkecnnhddhbaaGreatDoorKjM
namespace Go.Proofs.YtjhkecnnhddhbaaGreatDoor
open Go.RowKit Go.Maps Go.WideMaps
set_option maxRecDepth 100000
set_option maxHeartbeats 8000000 in
theorem holds_any (w0 : World) (M : Nat) (C : Ci) (last : Nat) (hC : CO w0 C last) (w : World) (v : Value) (vars : Int) (rs : List Row) (hU : Un w0 w M v vars rs C last) :
   Calls Tryz.prog 14 #[.pointer (some ⟨M, 0, none⟩)] w (PtOut w0 w M v C last 0 ((last + 1) * cntB 1 C.h.ns C.h.ns.length : Nat) (stepsL (holdsT C) (last + 1)) none) := by
 have hla := hC.la
 have hhl := hC.hl
 have HNW := hide (fun g (hg : w.heap.size ≤ g) => hU.new hg)
 have hMl := World.block_lt_of_cell? _ _ hU.cm.c0
 simp only at hMl
 have HMK := hide (fun U G S A cs (hv : ((last : Int) + 1) * C.f ≤ 200000) => holds_makes w0 M C last ⟨hC, hv⟩ U G S A cs)
 have u7 := hU.un.u9
 have u10 := hU.un.u10
 have HI := hide (hC.at'.h.later hU.bl)
 have HB := hide (beg w M C.h.v 25)
 have x7 := cell_later HB.out.b2 u7
 have y10 := cell_later HB.out.b3 u10
 have y0 := HB.out.c0
 have y2 := HB.out.c2
 have HG := hide HB.out.g1
 have HB3 := hide HB.out.b3
 have hs3 := HB.out.s3
 have HI3 := hide (HI.out.later HB.out.b3)
 clear hC hU HB
 simp only [Sl.v] at *
 go_enter Tryz.func14, Tryz.ntmps14
 go_wp2
 generalize ((w.alloc (.cells #[.pointer (some ⟨M, 0, none⟩)] 40)).alloc (.cells #[.int .i64 0, .int .i64 0, .nilFunc] 45)).alloc (.cells #[.slice C.h.at' C.h.ns.length C.h.cap] 25) = w3 at *
 clear x7 u7 u10
 have hbd : Below w3.heap.size w3 w3.drew := (Below.refl _ w3).drew
 have hc1 := cntB_le 1 C.h.ns C.h.ns.length
 have HBS := hide (besides_any 1 C.h.ns C.h.at' C.h.cap (by omega) w3.drew (HI3.out.later hbd))
 generalize cntB 1 C.h.ns C.h.ns.length = n1 at *
 have HES := hide (eachStep_any (last + 1) (by omega) n1 (by omega) 43 (.pointer (some ⟨w.heap.size + 1 + 1, 0, none⟩)) (.pointer (some ⟨w.heap.size, 0, none⟩)) w3.drew)
 have hs4 : w3.drew.heap.size = w.heap.size + 3 := hs3
 rw [hs4] at HES
 generalize hZ : (last + 1) * n1 = Z at *
 rw [show ((last + 1 : Nat) : Int) = (last : Int) + 1 by omega] at HES HMK
 have wl := wrap_id (x := (last : Int) + 1) (by omega) (by omega)
 go_region_held3 (fun w' => w'.cell? ⟨w.heap.size, 0, none⟩ = some (.pointer (some ⟨M, 0, none⟩)) ∧ w'.cell? ⟨w.heap.size + 1 + 1, 0, none⟩ = some (.slice C.h.at' C.h.ns.length C.h.cap) ∧ w'.cell? ⟨M, 10, none⟩ = some (.int .i64 last))
   (first | exact ⟨cell_set_far (cell_set_far (cell_set_far (cell_later hb5' y0) (by simp)) (by simp)) (by simp), cell_set_far (cell_set_far (cell_set_far (cell_later hb5' y2) (by simp)) (by simp)) (by simp), cell_set_far (cell_set_far (cell_set_far (cell_later hb5' y10) (by simp; omega)) (by simp; omega)) (by simp; omega)⟩ | exact ⟨cell_later hb5' y0, cell_later hb5' y2, cell_later hb5' y10⟩ | exact ⟨cell_later hbd y0, cell_later hbd y2, cell_later hbd y10⟩ | go_keep)
   (first
     | (go_at_call 34; refine HES.out.mono ?_; rintro e w5 ⟨rfl, e1, e2, hb5⟩; have hb5' : Below w3.heap.size w3 w5 := by { rw [hs3]; exact (show Below (w.heap.size + 3) w3 w3.drew from by rw [← hs3]; exact hbd).trans hb5 }; have HR := hide (r45 ((hb5'.block (w.heap.size + 1) (by omega)).trans HG.out)); obtain ⟨q0, q1, q2, f0, f1, f2⟩ := HR.out.1)
     | (go_at_call 39; refine HBS.out.mono ?_; rintro e w' ⟨rfl, hw'⟩; subst hw'))
 all_goals
   have HBX : Hid (Bxs w5 v M [(⟨w.heap.size + 3, 0, none⟩, .int .i64 ((last : Int) + 1)), (⟨w.heap.size + 3 + 1, 0, none⟩, .func (.func 43) #[] #[.pointer (some ⟨w.heap.size + 1 + 1, 0, none⟩), .pointer (some ⟨w.heap.size, 0, none⟩)]), (⟨w.heap.size, 0, none⟩, .pointer (some ⟨M, 0, none⟩)), (⟨w.heap.size + 1 + 1, 0, none⟩, .slice C.h.at' C.h.ns.length C.h.cap)]) := fun q x hq => by
     simp only [List.mem_cons, List.mem_nil_iff, or_false, Prod.mk.injEq] at hq
     rcases hq with ⟨rfl, rfl⟩ | ⟨rfl, rfl⟩ | ⟨rfl, rfl⟩ | ⟨rfl, rfl⟩
     · exact ⟨e1, HNW.out _ (by simp)⟩
     · exact ⟨e2, HNW.out _ (by simp; omega)⟩
     · exact ⟨cell_later hb5' y0, HNW.out _ (Nat.le_refl _)⟩
     · exact ⟨cell_later hb5' y2, HNW.out _ (by simp; omega)⟩
   have HB5 := hide (bthen HB3.out hb5')
   have HEND : Hid (PtOut w0 w M v C last 0 Z (stepsL (holdsT C) (last + 1)) none (.returned (.agg #[.int .i64 0, .int .i64 Z, .func (.func 65) #[] #[.pointer (some ⟨w.heap.size + 3, 0, none⟩), .pointer (some ⟨w.heap.size + 3 + 1, 0, none⟩)]])) (set3 w5 (w.heap.size + 1) (.int .i64 0) (.int .i64 Z) (.func (.func 65) #[] #[.pointer (some ⟨w.heap.size + 3, 0, none⟩), .pointer (some ⟨w.heap.size + 3 + 1, 0, none⟩)]))) :=
     ⟨_, rfl, rfl, rfl, rfl, rfl, set3_below HB5.out (by omega) _ _ _, set3_bxs HBX.out (fun q x hq => by
       simp only [List.mem_cons, List.mem_nil_iff, or_false, Prod.mk.injEq] at hq
       rcases hq with ⟨rfl, rfl⟩ | ⟨rfl, rfl⟩ | ⟨rfl, rfl⟩ | ⟨rfl, rfl⟩ <;> simp <;> omega) _ _ _, HMK.out w.heap.size (w.heap.size + 1 + 1) _ _ Z, enter65⟩
   rename_i hHeld
   clear hHeld hb5 hb5' e1 e2 y0 y2 y10 HG HB3 HES HBX HB5 HMK HNW HBS HI HI3
   go_wp2
   refine bodyPost_ret (results_cell_row rfl _ _ (w.heap.size + 1) 45 _ _ _ rfl (HR.out.2 _ _ _) Tryz.underlying45 rfl (by kernel_rfl)) rfl ?_
   exact HEND.out
end Go.Proofs.YtjhkecnnhddhbaaGreatDoor
