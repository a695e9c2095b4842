/- Steps that differ, of a circuit of one bit: the part. -/
import Derived.Test.YtmambfdimeeijaaGreatDoorTcM
import Derived.Test.YtmambfdimeeijaaGreatDoorScM
import Derived.Test.YtmambfdimeeijaaGreatDoorKqM
namespace Go.Proofs.YtmambfdimeeijaaGreatDoor
open Go.RowKit Go.Maps Go.WideMaps
set_option maxRecDepth 100000
theorem enter156 (args : Array Value) (w : World) : (callFunc 59 args).run Tryz.prog w = .ok (.enter 59 args) w := by kernel_rfl
end Go.Proofs.YtmambfdimeeijaaGreatDoor

namespace Go.Proofs.YtmambfdimeeijaaGreatDoor
open Go.RowKit Go.Maps Go.WideMaps
set_option maxRecDepth 100000
structure Beg158 (w : World) (M : Nat) (x : Value) (ty : TypeId) : Prop where
 b2 : Below w.heap.size w ((w.alloc (.cells #[.pointer (some ⟨M, 0, none⟩)] 62)).alloc (.cells #[.int .i64 0, .int .i64 0, .nilFunc] 65))
 b3 : Below w.heap.size w (((w.alloc (.cells #[.pointer (some ⟨M, 0, none⟩)] 62)).alloc (.cells #[.int .i64 0, .int .i64 0, .nilFunc] 65)).alloc (.cells #[x] ty))
 c0 : (((w.alloc (.cells #[.pointer (some ⟨M, 0, none⟩)] 62)).alloc (.cells #[.int .i64 0, .int .i64 0, .nilFunc] 65)).alloc (.cells #[x] ty)).cell? ⟨w.heap.size, 0, none⟩ = some (.pointer (some ⟨M, 0, none⟩))
 g1 : (((w.alloc (.cells #[.pointer (some ⟨M, 0, none⟩)] 62)).alloc (.cells #[.int .i64 0, .int .i64 0, .nilFunc] 65)).alloc (.cells #[x] ty)).heap[w.heap.size + 1]? = some (.cells #[.int .i64 0, .int .i64 0, .nilFunc] 65)
 c2 : (((w.alloc (.cells #[.pointer (some ⟨M, 0, none⟩)] 62)).alloc (.cells #[.int .i64 0, .int .i64 0, .nilFunc] 65)).alloc (.cells #[x] ty)).cell? ⟨w.heap.size + 1 + 1, 0, none⟩ = some x
 s3 : (((w.alloc (.cells #[.pointer (some ⟨M, 0, none⟩)] 62)).alloc (.cells #[.int .i64 0, .int .i64 0, .nilFunc] 65)).alloc (.cells #[x] ty)).heap.size = w.heap.size + 3
theorem beg158 (w : World) (M : Nat) (x : Value) (ty : TypeId) : Beg158 w M x ty :=
 ⟨bal (bal (Below.refl _ _) _) _, bal (bal (bal (Below.refl _ _) _) _) _, by simp [go_sem], ((bal (Below.refl _ ((w.alloc (.cells #[.pointer (some ⟨M, 0, none⟩)] 62)).alloc (.cells #[.int .i64 0, .int .i64 0, .nilFunc] 65))) (.cells #[x] ty)).block (w.heap.size + 1) (by simp)).trans (alloc_at (by simp)), by simp [go_sem], by simp⟩
set_option maxHeartbeats 8000000 in
theorem quiet_any (w0 : World) (M : Nat) (C : Ci) (last : Nat) (hC : CO w0 C last) (w : World) (v : Value) (vars : Int) (rs : List Row) (hU : Un w0 w M v vars rs C last) :
   Calls Tryz.prog 29 #[.agg #[.pointer (some ⟨M, 0, none⟩)]] w (PtOut w0 w M v C last 0 (last * cntB 0 C.b.ns C.b.ns.length : Nat) (stepsL (quietT C) last) none) := by
 have hla := hC.la
 have hhl := hC.bl
 have HNW := hide (fun g (hg : w.heap.size ≤ g) => hU.new hg)
 have hMl := World.block_lt_of_cell? _ _ hU.cm.c0
 simp only at hMl
 have HMK := hide (fun U G S A cs (hv : ((last : Int) + 1) * C.f ≤ 200000) => quiet_makes w0 M C last ⟨hC, hv⟩ U G S A cs)
 have u7 := hU.un.u8
 have u10 := hU.un.u10
 have HI := hide (hC.at'.b.later hU.bl)
 have HB := hide (beg158 w M C.b.v 25)
 have x7 := cell_later HB.out.b2 u7
 have y10 := cell_later HB.out.b3 u10
 have y0 := HB.out.c0
 have y2 := HB.out.c2
 have HG := hide HB.out.g1
 have HB3 := hide HB.out.b3
 have hs3 := HB.out.s3
 have HI3 := hide (HI.out.later HB.out.b3)
 clear hC hU HB
 simp only [Sl.v] at *
 go_enter Tryz.func29, Tryz.ntmps29
 go_wp2
 generalize ((w.alloc (.cells #[.pointer (some ⟨M, 0, none⟩)] 62)).alloc (.cells #[.int .i64 0, .int .i64 0, .nilFunc] 65)).alloc (.cells #[.slice C.b.at' C.b.ns.length C.b.cap] 25) = w3 at *
 clear x7 u7 u10
 have hbd : Below w3.heap.size w3 w3.drew := (Below.refl _ w3).drew
 have hc1 := cntB_le 0 C.b.ns C.b.ns.length
 have HBS := hide (besides_any 0 C.b.ns C.b.at' C.b.cap (by omega) w3.drew (HI3.out.later hbd))
 generalize cntB 0 C.b.ns C.b.ns.length = n1 at *
 have HES := hide (eachStep_any last (by omega) n1 (by omega) 57 (.pointer (some ⟨w.heap.size + 1 + 1, 0, none⟩)) (.pointer (some ⟨w.heap.size, 0, none⟩)) w3.drew)
 have hs4 : w3.drew.heap.size = w.heap.size + 3 := hs3
 rw [hs4] at HES
 generalize hZ : last * n1 = Z at *
 go_region_held3 (fun w' => w'.cell? ⟨w.heap.size, 0, none⟩ = some (.pointer (some ⟨M, 0, none⟩)) ∧ w'.cell? ⟨w.heap.size + 1 + 1, 0, none⟩ = some (.slice C.b.at' C.b.ns.length C.b.cap) ∧ w'.cell? ⟨M, 10, none⟩ = some (.int .i64 last))
   (first | exact ⟨cell_set_far (cell_set_far (cell_set_far (cell_later hb5' y0) (by simp)) (by simp)) (by simp), cell_set_far (cell_set_far (cell_set_far (cell_later hb5' y2) (by simp)) (by simp)) (by simp), cell_set_far (cell_set_far (cell_set_far (cell_later hb5' y10) (by simp; omega)) (by simp; omega)) (by simp; omega)⟩ | exact ⟨cell_later hb5' y0, cell_later hb5' y2, cell_later hb5' y10⟩ | exact ⟨cell_later hbd y0, cell_later hbd y2, cell_later hbd y10⟩ | go_keep)
   (first
     | (go_at_call 41; refine HES.out.mono ?_; rintro e w5 ⟨rfl, e1, e2, hb5⟩; have hb5' : Below w3.heap.size w3 w5 := by { rw [hs3]; exact (show Below (w.heap.size + 3) w3 w3.drew from by rw [← hs3]; exact hbd).trans hb5 }; have HR := hide (r45 ((hb5'.block (w.heap.size + 1) (by omega)).trans HG.out)); obtain ⟨q0, q1, q2, f0, f1, f2⟩ := HR.out.1)
     | (go_at_call 46; refine HBS.out.mono ?_; rintro e w' ⟨rfl, hw'⟩; subst hw'))
 all_goals
   have HBX : Hid (Bxs w5 v M [(⟨w.heap.size + 3, 0, none⟩, .int .i64 last), (⟨w.heap.size + 3 + 1, 0, none⟩, .func (.func 57) #[] #[.pointer (some ⟨w.heap.size + 1 + 1, 0, none⟩), .pointer (some ⟨w.heap.size, 0, none⟩)]), (⟨w.heap.size, 0, none⟩, .pointer (some ⟨M, 0, none⟩)), (⟨w.heap.size + 1 + 1, 0, none⟩, .slice C.b.at' C.b.ns.length C.b.cap)]) := fun q x hq => by
     simp only [List.mem_cons, List.mem_nil_iff, or_false, Prod.mk.injEq] at hq
     rcases hq with ⟨rfl, rfl⟩ | ⟨rfl, rfl⟩ | ⟨rfl, rfl⟩ | ⟨rfl, rfl⟩
     · exact ⟨e1, HNW.out _ (by simp)⟩
     · exact ⟨e2, HNW.out _ (by simp; omega)⟩
     · exact ⟨cell_later hb5' y0, HNW.out _ (Nat.le_refl _)⟩
     · exact ⟨cell_later hb5' y2, HNW.out _ (by simp; omega)⟩
   have HB5 := hide (bthen HB3.out hb5')
   have HEND : Hid (PtOut w0 w M v C last 0 Z (stepsL (quietT C) last) none (.returned (.agg #[.int .i64 0, .int .i64 Z, .func (.func 78) #[] #[.pointer (some ⟨w.heap.size + 3, 0, none⟩), .pointer (some ⟨w.heap.size + 3 + 1, 0, none⟩)]])) (set3 w5 (w.heap.size + 1) (.int .i64 0) (.int .i64 Z) (.func (.func 78) #[] #[.pointer (some ⟨w.heap.size + 3, 0, none⟩), .pointer (some ⟨w.heap.size + 3 + 1, 0, none⟩)]))) :=
     ⟨_, rfl, rfl, rfl, rfl, rfl, set3_below HB5.out (by omega) _ _ _, set3_bxs HBX.out (fun q x hq => by
       simp only [List.mem_cons, List.mem_nil_iff, or_false, Prod.mk.injEq] at hq
       rcases hq with ⟨rfl, rfl⟩ | ⟨rfl, rfl⟩ | ⟨rfl, rfl⟩ | ⟨rfl, rfl⟩ <;> simp <;> omega) _ _ _, HMK.out w.heap.size (w.heap.size + 1 + 1) _ _ Z, enter65⟩
   rename_i hHeld
   clear hHeld hb5 hb5' e1 e2 y0 y2 y10 HG HB3 HES HBX HB5 HMK HNW HBS HI HI3
   go_wp2
   refine bodyPost_ret (results_cell_row rfl _ _ (w.heap.size + 1) 65 _ _ _ rfl (HR.out.2 _ _ _) Tryz.underlying65 rfl (by kernel_rfl)) rfl ?_
   exact HEND.out
end Go.Proofs.YtmambfdimeeijaaGreatDoor

namespace Go.Proofs.YtmambfdimeeijaaGreatDoor
open Go.RowKit Go.Maps Go.WideMaps
set_option maxRecDepth 100000
end Go.Proofs.YtmambfdimeeijaaGreatDoor

namespace Go.Proofs.YtmambfdimeeijaaGreatDoor
open Go.RowKit Go.Maps Go.WideMaps
set_option maxRecDepth 100000
set_option maxHeartbeats 8000000 in
theorem different_any (w0 : World) (M : Nat) (C : Ci) (last : Nat) (hC : CO w0 C last) (V0 : Int) (w : World) (v : Value) (vars : Int) (rs : List Row) (hU : Un w0 w M v vars rs C last) :
   Calls Tryz.prog 30 #[.agg #[.pointer (some ⟨M, 0, none⟩)]] w (PtOut w0 w M v C last ((cntP last (last + 1) : Int) * C.s) ((cntP last (last + 1) * (2 * C.s.toNat + 1) : Nat) : Int) (diffL C last V0) (some V0)) := by
 have HNW := hide (fun g (hg : w.heap.size ≤ g) => hU.new hg)
 have hMl := World.block_lt_of_cell? _ _ hU.cm.c0
 simp only at hMl
 have hs0 := hC.s0
 have hla := hC.la
 have hs1 : C.s ≤ 1000 := by have := hC.sm; have := hC.i1; have := hC.a0; omega
 have hall := cntP_all last
 have hN : cntP last (last + 1) ≤ 820 := by
   have : last * (last + 1) ≤ 40 * 41 := Nat.mul_le_mul hla (by omega)
   omega
 have hq : ((last : Int) * ((last : Int) + 1)).tdiv 2 = (cntP last (last + 1) : Int) := by
   rw [show (last : Int) * ((last : Int) + 1) = ((last * (last + 1) : Nat) : Int) by simp, ← hall]
   rw [Int.tdiv_eq_ediv_of_nonneg (by omega)]
   omega
 have hlm : (last : Int) * ((last : Int) + 1) = 2 * (cntP last (last + 1) : Int) := by
   rw [show (last : Int) * ((last : Int) + 1) = ((last * (last + 1) : Nat) : Int) by simp, ← hall]
   omega
 have HMK := hide (fun U cs (hv : ((last : Int) + 1) * C.f ≤ 200000) => different_mk w0 M C last ⟨hC, hv⟩ U cs V0)
 have hb2 : Below w.heap.size w ((w.alloc (.cells #[.pointer (some ⟨M, 0, none⟩)] 62)).alloc (.cells #[.int .i64 0, .int .i64 0, .nilFunc] 65)) := bal (bal (Below.refl _ _) _) _
 have x5 := cell_later hb2 hU.un.u5
 have x10 := cell_later hb2 hU.un.u10
 have y0 : ((w.alloc (.cells #[.pointer (some ⟨M, 0, none⟩)] 62)).alloc (.cells #[.int .i64 0, .int .i64 0, .nilFunc] 65)).cell? ⟨w.heap.size, 0, none⟩ = some (.pointer (some ⟨M, 0, none⟩)) := by simp [go_sem]
 have hg : ((w.alloc (.cells #[.pointer (some ⟨M, 0, none⟩)] 62)).alloc (.cells #[.int .i64 0, .int .i64 0, .nilFunc] 65)).heap[w.heap.size + 1]? = some (.cells #[.int .i64 0, .int .i64 0, .nilFunc] 65) := alloc_at (by simp)
 have HG := hide hg
 have HB2 := hide hb2
 have hcs : ((cntP last (last + 1) * (2 * C.s.toNat + 1) : Nat) : Int) = (cntP last (last + 1) : Int) * (2 * C.s + 1) := by
   rw [Int.natCast_mul]
   congr 1
   omega
 rw [hcs]
 have hm1 : 0 ≤ (cntP last (last + 1) : Int) * C.s := Int.mul_nonneg (by omega) hs0
 have hm2 : (cntP last (last + 1) : Int) * C.s ≤ 820 * 1000 := Int.mul_le_mul (by omega) hs1 hs0 (by omega)
 have hm3 : 0 ≤ (cntP last (last + 1) : Int) * (2 * C.s + 1) := Int.mul_nonneg (by omega) (by omega)
 have hm4 : (cntP last (last + 1) : Int) * (2 * C.s + 1) ≤ 820 * 2001 := Int.mul_le_mul (by omega) (by omega) (by omega) (by omega)
 have wl := wrap_id (x := (last : Int) + 1) (by omega) (by omega)
 have wm := wrap_id (x := (last : Int) * ((last : Int) + 1)) (by omega) (by omega)
 have wq : IntKind.i64.wrap (((last : Int) * ((last : Int) + 1)).tdiv 2) = (cntP last (last + 1) : Int) := by rw [hq]; exact wrap_id (by omega) (by omega)
 have w1 := wrap_id (x := (cntP last (last + 1) : Int) * C.s) (by omega) (by omega)
 have w2 := wrap_id (x := 2 * C.s) (by omega) (by omega)
 have w3 := wrap_id (x := 2 * C.s + 1) (by omega) (by omega)
 have w4 := wrap_id (x := (cntP last (last + 1) : Int) * (2 * C.s + 1)) (by omega) (by omega)
 generalize (cntP last (last + 1) : Int) = N at *
 clear hC hU hb2 hg hall hN hq hlm hcs hm1 hm2 hm3 hm4 hs1 hs0
 go_enter Tryz.func30, Tryz.ntmps30
 go_wp2
 generalize (w.alloc (.cells #[.pointer (some ⟨M, 0, none⟩)] 62)).alloc (.cells #[.int .i64 0, .int .i64 0, .nilFunc] 65) = w3 at *
 go_quiet (fail)
 have hbq : Below w3.heap.size w3 (w3.drewN nq) := bdn (Below.refl _ _) nq
 have z0 := cell_later hbq y0
 have z5 := cell_later hbq x5
 have HG4 := hide ((hbq.block (w.heap.size + 1) (Array.getElem?_eq_some_iff.1 HG.out).1).trans HG.out)
 have HB4 := hide (bthen HB2.out hbq)
 clear HG HB2 hbq y0 x5 x10
 generalize w3.drewN nq = w4 at *
 have hbd : Below w4.heap.size w4 w4.drew := (Below.refl _ w4).drew
 have HR := hide (r45 HG4.out)
 obtain ⟨q0, q1, q2, f0, f1, f2⟩ := HR.out.1
 have HBX : Hid (Bxs w4 v M [(⟨w.heap.size, 0, none⟩, .pointer (some ⟨M, 0, none⟩))]) := fun q x hq => by
   simp only [List.mem_cons, List.mem_nil_iff, or_false, Prod.mk.injEq] at hq
   rcases hq with ⟨rfl, rfl⟩
   exact ⟨z0, HNW.out _ (Nat.le_refl _)⟩
 have hbs := set3_bxs HBX.out (R := w.heap.size + 1) (fun q x hq => by
     simp only [List.mem_cons, List.mem_nil_iff, or_false, Prod.mk.injEq] at hq
     rcases hq with ⟨rfl, rfl⟩
     simp) (.int .i64 (N * C.s)) (.int .i64 (N * (2 * C.s + 1))) (.func (.func 59) #[] #[.pointer (some ⟨w.heap.size, 0, none⟩)])
 have HEND : Hid (PtOut w0 w M v C last (N * C.s) (N * (2 * C.s + 1)) (diffL C last V0) (some V0) (.returned (.agg #[.int .i64 (N * C.s), .int .i64 (N * (2 * C.s + 1)), .func (.func 59) #[] #[.pointer (some ⟨w.heap.size, 0, none⟩)]])) (set3 w4 (w.heap.size + 1) (.int .i64 (N * C.s)) (.int .i64 (N * (2 * C.s + 1))) (.func (.func 59) #[] #[.pointer (some ⟨w.heap.size, 0, none⟩)])).drew) :=
   ⟨_, rfl, rfl, rfl, rfl, rfl, (set3_below HB4.out (by omega) _ _ _).drew, hbs.later (Below.refl _ _).drew, HMK.out w.heap.size (N * (2 * C.s + 1)), enter156⟩
 clear hbs wl wm wq
 go_wp2
 go_region_held3 (fun w' => w'.cell? ⟨w.heap.size, 0, none⟩ = some (.pointer (some ⟨M, 0, none⟩)) ∧ w'.cell? ⟨M, 5, none⟩ = some (.int .i64 C.s))
   (first | exact ⟨cell_later hbd z0, cell_later hbd z5⟩ | exact ⟨z0, z5⟩ | exact ⟨cell_set_far (cell_set_far (cell_set_far z0 (by simp)) (by simp)) (by simp), cell_set_far (cell_set_far (cell_set_far z5 (by simp; omega)) (by simp; omega)) (by simp; omega)⟩ | go_keep)
   (fail)
 all_goals
   rename_i hHeld
   clear hHeld hbd z0 z5 HG4 HB4 HMK HNW HBX
   go_wp2
   refine bodyPost_ret (results_cell_row rfl _ _ (w.heap.size + 1) 65 _ _ _ rfl (HR.out.2 _ _ _) Tryz.underlying65 rfl (by kernel_rfl)) rfl ?_
   exact HEND.out
end Go.Proofs.YtmambfdimeeijaaGreatDoor

namespace Go.Proofs.YtmambfdimeeijaaGreatDoor
open Go.RowKit Go.Maps Go.WideMaps
set_option maxRecDepth 100000
theorem turn_one {y : Int} : turn y = 1 ↔ y = 0 := by
 unfold turn
 split
 · rename_i h1
   have : y % 2 = 1 := by simpa [odd] using h1
   omega
 · omega
theorem quiet_len {w : World} {C : Ci} {last : Nat} (h : CO w C last) : (stepsL (quietT C) last).length = last * cntB 0 C.b.ns C.b.ns.length := by
 refine stepsL_len fun t _ => stepsL_cnt (g := fun k => cntB 0 C.b.ns k) rfl fun k hk => ?_
 have hx := h.nb _ (getD_mem' hk)
 have ha := atL_one (h.t0 t) hx.1
 simp only [cntB_succ hk]
 unfold quietC
 rw [rootC_len]
 simp only [turn_one, ha.1]
structure PtF (w0 : World) (M : Nat) (C : Ci) (last : Nat) (p : Prt) (vs : Int) (cs : Int) (L : List (List Int)) (nd : Option Int) : Prop where
 vs : p.vs = vs
 cs : p.cs = cs
 L : p.L = L
 nd : p.need = nd
 mks : ((last : Int) + 1) * C.f ≤ 200000 → Makes w0 M C last p
 en : ∀ (args : Array Value) (w : World), (callFunc p.fn args).run Tryz.prog w = .ok (.enter p.fn args) w
end Go.Proofs.YtmambfdimeeijaaGreatDoor

namespace Go.Proofs.YtmambfdimeeijaaGreatDoor
open Go.RowKit Go.Maps Go.WideMaps
set_option maxRecDepth 100000
theorem cell_blk {w1 w2 : World} {a : Addr} {v : Value} (h : w1.cell? a = some v) (hb : w2.heap[a.block]? = w1.heap[a.block]?) : w2.cell? a = some v := by
 rw [World.cell?_of_block (w := w1) (a := a) hb]; exact h
theorem ptF_of {w0 w w' : World} {M : Nat} {v : Value} {C : Ci} {last : Nat} {vs cs : Int} {L : List (List Int)} {nd : Option Int} {e : Ending} (h : PtOut w0 w M v C last vs cs L nd e w') :
   ∃ p : Prt, e = .returned p.v ∧ PtF w0 M C last p vs cs L nd ∧ Bxs w' v M p.bx ∧ Below w.heap.size w w' := by
 obtain ⟨p, h1, h2, h3, h4, h5, h6, h7, h8, h9⟩ := h
 exact ⟨p, h1, ⟨h2, h3, h4, h5, h8, h9⟩, h7, h6⟩
end Go.Proofs.YtmambfdimeeijaaGreatDoor

namespace Go.Proofs.YtmambfdimeeijaaGreatDoor
open Go.RowKit Go.Maps Go.WideMaps
set_option maxRecDepth 100000
def apV (C : Ci) (last : Nat) : Int := ((last : Int) + 1) * C.f + (cntP last (last + 1) : Int) * C.s
def apL (C : Ci) (last : Nat) : List (List Int) := stepsL (fun t => andsT C t C.ps.length) (last + 1) ++ (stepsL (bondsT C) last ++ (stepsL (holdsT C) (last + 1) ++ (badC C last ++ (stepsL (quietT C) last ++ diffL C last (((last : Int) + 1) * C.f)))))
def mdE (V : Int) (L : List (List Int)) : Int := if 200000 < V then 3 else if 800000 < L.length then 2 else chkC V L
def apE (C : Ci) (steps : Int) : Int := if C.e ≠ 0 then C.e else if steps < 0 ∨ 40 < steps then 3 else mdE (apV C steps.toNat) (apL C steps.toNat)
theorem apL_short {w : World} {C : Ci} {last : Nat} (h : CO w C last) {c : List Int} (hc : c ∈ apL C last) : c.length ≤ 2000000 := by
 have hb := h.bl
 have hs1 : C.s ≤ 1000 := by have := h.sm; have := h.i1; have := h.a0; omega
 unfold apL at hc
 rcases List.mem_append.1 hc with hc | hc
 · obtain ⟨k, _, hc⟩ := mem_stepsL hc
   have := andsC_short hc
   omega
 rcases List.mem_append.1 hc with hc | hc
 · obtain ⟨k, _, hc⟩ := mem_stepsL hc
   obtain ⟨j, _, hc⟩ := mem_stepsL hc
   have := sameC_short hc
   omega
 rcases List.mem_append.1 hc with hc | hc
 · obtain ⟨k, _, hc⟩ := mem_stepsL hc
   obtain ⟨j, _, hc⟩ := mem_stepsL hc
   have := rootC_short hc
   omega
 rcases List.mem_append.1 hc with hc | hc
 · have := badC_short hc
   omega
 rcases List.mem_append.1 hc with hc | hc
 · obtain ⟨k, _, hc⟩ := mem_stepsL hc
   obtain ⟨j, _, hc⟩ := mem_stepsL hc
   have := rootC_short hc
   omega
 · obtain ⟨k, _, hc⟩ := mem_stepsL hc
   obtain ⟨j, _, hc⟩ := mem_stepsL hc
   unfold pairT differT at hc
   rcases List.mem_append.1 hc with hc | hc
   · obtain ⟨i, _, hc⟩ := mem_stepsL hc
     simp [differC] at hc
     rcases hc with rfl | rfl <;> simp
   · simp at hc
     subst hc
     rw [someV_len]
     omega
set_option maxHeartbeats 4000000 in
theorem madeD (w1 : World) (M : Nat) (C : Ci) (last : Nat) (hCO : CO w1 C last) (p1 p2 p3 p4 p5 p6 : Prt)
   (h1 : PtF w1 M C last p1 (((last + 1 : Nat) : Int) * C.f) ((last + 1) * (3 * C.ps.length) : Nat) (stepsL (fun t => andsT C t C.ps.length) (last + 1)) none)
   (h2 : PtF w1 M C last p2 0 (last * (cntB 0 C.n.ns C.n.ns.length + cntB 1 C.n.ns C.n.ns.length) : Nat) (stepsL (bondsT C) last) none)
   (h3 : PtF w1 M C last p3 0 ((last + 1) * cntB 1 C.h.ns C.h.ns.length : Nat) (stepsL (holdsT C) (last + 1)) none)
   (h4 : PtF w1 M C last p4 0 ((badC C last).length : Nat) (badC C last) none)
   (h5 : PtF w1 M C last p5 0 (last * cntB 0 C.b.ns C.b.ns.length : Nat) (stepsL (quietT C) last) none)
   (h6 : PtF w1 M C last p6 ((cntP last (last + 1) : Int) * C.s) ((cntP last (last + 1) * (2 * C.s.toNat + 1) : Nat) : Int) (diffL C last (((last : Int) + 1) * C.f)) (some (((last : Int) + 1) * C.f)))
   (w : World) (hU : Un w1 w M (.slice none 0 0) 0 [] C last) (hx1 : Bxs w (.slice none 0 0) M p1.bx) (hx2 : Bxs w (.slice none 0 0) M p2.bx) (hx3 : Bxs w (.slice none 0 0) M p3.bx) (hx4 : Bxs w (.slice none 0 0) M p4.bx) (hx5 : Bxs w (.slice none 0 0) M p5.bx) (hx6 : Bxs w (.slice none 0 0) M p6.bx) :
   Calls Tryz.prog 24 #[.pointer (some ⟨M, 0, none⟩), .slice (some ⟨w.heap.size, 0, none⟩) 6 6] (w.alloc (.cells #[.int .i64 p1.vs, .int .i64 p1.cs, .func (.func p1.fn) #[] p1.caps, .int .i64 p2.vs, .int .i64 p2.cs, .func (.func p2.fn) #[] p2.caps, .int .i64 p3.vs, .int .i64 p3.cs, .func (.func p3.fn) #[] p3.caps, .int .i64 p4.vs, .int .i64 p4.cs, .func (.func p4.fn) #[] p4.caps, .int .i64 p5.vs, .int .i64 p5.cs, .func (.func p5.fn) #[] p5.caps, .int .i64 p6.vs, .int .i64 p6.cs, .func (.func p6.fn) #[] p6.caps] 65)) (fun e w' => MdOut w1 (mdE (apV C last) (apL C last)) (apV C last) (apL C last) e w' ∧ MdKp (w.alloc (.cells #[.int .i64 p1.vs, .int .i64 p1.cs, .func (.func p1.fn) #[] p1.caps, .int .i64 p2.vs, .int .i64 p2.cs, .func (.func p2.fn) #[] p2.caps, .int .i64 p3.vs, .int .i64 p3.cs, .func (.func p3.fn) #[] p3.caps, .int .i64 p4.vs, .int .i64 p4.cs, .func (.func p4.fn) #[] p4.caps, .int .i64 p5.vs, .int .i64 p5.cs, .func (.func p5.fn) #[] p5.caps, .int .i64 p6.vs, .int .i64 p6.cs, .func (.func p6.fn) #[] p6.caps] 65)) M w') := by
 have hbP : Below w.heap.size w (w.alloc (.cells #[.int .i64 p1.vs, .int .i64 p1.cs, .func (.func p1.fn) #[] p1.caps, .int .i64 p2.vs, .int .i64 p2.cs, .func (.func p2.fn) #[] p2.caps, .int .i64 p3.vs, .int .i64 p3.cs, .func (.func p3.fn) #[] p3.caps, .int .i64 p4.vs, .int .i64 p4.cs, .func (.func p4.fn) #[] p4.caps, .int .i64 p5.vs, .int .i64 p5.cs, .func (.func p5.fn) #[] p5.caps, .int .i64 p6.vs, .int .i64 p6.cs, .func (.func p6.fn) #[] p6.caps] 65)) := bal (Below.refl _ _) _
 have hnw := hU.new (Nat.le_refl w.heap.size)
 have hlf := hCO.lf
 have hf0 := hCO.f0
 have hla := hCO.la
 have hs0 := hCO.s0
 have hv2 : ((last + 1 : Nat) : Int) * C.f = ((last : Int) + 1) * C.f := by simp
 have hv3 : ((last : Int) + 1) * C.f = (last : Int) * C.f + C.f := by rw [Int.add_mul]; omega
 have hall := cntP_all last
 have hN : cntP last (last + 1) ≤ 820 := by
   have : last * (last + 1) ≤ 40 * 41 := Nat.mul_le_mul hla (by omega)
   omega
 have hs1 : C.s ≤ 1000 := by have := hCO.sm; have := hCO.i1; have := hCO.a0; omega
 have hm1 : 0 ≤ (cntP last (last + 1) : Int) * C.s := Int.mul_nonneg (by omega) hs0
 have hm2 : (cntP last (last + 1) : Int) * C.s ≤ 820 * 1000 := Int.mul_le_mul (by omega) hs1 hs0 (by omega)
 have hm3 : cntP last (last + 1) * (2 * C.s.toNat + 1) ≤ 820 * 2001 := Nat.mul_le_mul hN (by omega)
 have hpl := hCO.p1
 have b1 := cntB_le 0 C.n.ns C.n.ns.length; have b2 := cntB_le 1 C.n.ns C.n.ns.length; have b3 := cntB_le 1 C.h.ns C.h.ns.length; have b4 := cntB_le 0 C.b.ns C.b.ns.length
 have e1 : (last + 1) * (3 * C.ps.length) ≤ 41 * 3000003 := Nat.mul_le_mul (by omega) (by omega)
 have c1 := hCO.nl; have c2 := hCO.sm; have c3 := hCO.i1; have c4 := hCO.a0; have c5 := hCO.hl; have c6 := hCO.bl
 have hbadl : (badC C last).length ≤ 1 := by unfold badC; split <;> simp
 have hPB : PrB (w.alloc (.cells #[.int .i64 p1.vs, .int .i64 p1.cs, .func (.func p1.fn) #[] p1.caps, .int .i64 p2.vs, .int .i64 p2.cs, .func (.func p2.fn) #[] p2.caps, .int .i64 p3.vs, .int .i64 p3.cs, .func (.func p3.fn) #[] p3.caps, .int .i64 p4.vs, .int .i64 p4.cs, .func (.func p4.fn) #[] p4.caps, .int .i64 p5.vs, .int .i64 p5.cs, .func (.func p5.fn) #[] p5.caps, .int .i64 p6.vs, .int .i64 p6.cs, .func (.func p6.fn) #[] p6.caps] 65)) (.slice none 0 0) M w.heap.size [p1, p2, p3, p4, p5, p6] := ⟨hnw.1, hnw.2, fun i hi => by
   match i, hi with
   | 0, _ => exact ⟨by simp [go_sem], by simp [go_sem], by simp [go_sem]⟩
   | 1, _ => exact ⟨by simp [go_sem], by simp [go_sem], by simp [go_sem]⟩
   | 2, _ => exact ⟨by simp [go_sem], by simp [go_sem], by simp [go_sem]⟩
   | 3, _ => exact ⟨by simp [go_sem], by simp [go_sem], by simp [go_sem]⟩
   | 4, _ => exact ⟨by simp [go_sem], by simp [go_sem], by simp [go_sem]⟩
   | 5, _ => exact ⟨by simp [go_sem], by simp [go_sem], by simp [go_sem]⟩
   | k + 6, hi => simp at hi; omega⟩
 have e2 : last * (cntB 0 C.n.ns C.n.ns.length + cntB 1 C.n.ns C.n.ns.length) ≤ 40 * 2000 := Nat.mul_le_mul hla (by omega)
 have e3 : (last + 1) * cntB 1 C.h.ns C.h.ns.length ≤ 41 * 2000000 := Nat.mul_le_mul (by omega) (by omega)
 have e4 : last * cntB 0 C.b.ns C.b.ns.length ≤ 40 * 2000000 := Nat.mul_le_mul hla (by omega)
 have hsv : sumV [p1, p2, p3, p4, p5, p6] 6 = apV C last := by
   show 0 + p1.vs + p2.vs + p3.vs + p4.vs + p5.vs + p6.vs = _
   rw [h1.vs, h2.vs, h3.vs, h4.vs, h5.vs, h6.vs, hv2]; unfold apV; omega
 have hml : madeL [p1, p2, p3, p4, p5, p6] 6 = apL C last := by
   show p1.L ++ (p2.L ++ (p3.L ++ (p4.L ++ (p5.L ++ (p6.L ++ []))))) = _
   rw [h1.L, h2.L, h3.L, h4.L, h5.L, h6.L]; simp [apL]
 have hmd := made_parts w1 M C last [p1, p2, p3, p4, p5, p6] (by simp) (by simp) (fun p hp => by
   simp only [List.mem_cons, List.mem_nil_iff, or_false] at hp
   rcases hp with rfl | rfl | rfl | rfl | rfl | rfl
   · exact pok_of (n := ((last + 1) * (3 * C.ps.length))) h1.vs (by rw [h1.cs]) h1.L (by rw [hv2]; omega) (by rw [hv2]; omega) (ands_len hCO) (by omega) h1.mks h1.en
   · exact pok_of (n := (last * (cntB 0 C.n.ns C.n.ns.length + cntB 1 C.n.ns C.n.ns.length))) h2.vs (by rw [h2.cs]) h2.L (by omega) (by omega) (bonds_len hCO) (by omega) h2.mks h2.en
   · exact pok_of (n := ((last + 1) * cntB 1 C.h.ns C.h.ns.length)) h3.vs (by rw [h3.cs]) h3.L (by omega) (by omega) (holds_len hCO) (by omega) h3.mks h3.en
   · exact pok_of (n := ((badC C last).length)) h4.vs (by rw [h4.cs]) h4.L (by omega) (by omega) (rfl) (by omega) h4.mks h4.en
   · exact pok_of (n := (last * cntB 0 C.b.ns C.b.ns.length)) h5.vs (by rw [h5.cs]) h5.L (by omega) (by omega) (quiet_len hCO) (by omega) h5.mks h5.en
   · exact pok_of (n := cntP last (last + 1) * (2 * C.s.toNat + 1)) h6.vs (by rw [h6.cs]) h6.L (by omega) (by omega) (by unfold diffL; exact rows_len C last _ _) (by omega) h6.mks h6.en
   ) (fun c hc => by rw [show [p1, p2, p3, p4, p5, p6].length = 6 from rfl, hml] at hc; have := apL_short hCO hc; omega) (by rw [show [p1, p2, p3, p4, p5, p6].length = 6 from rfl, hsv]; unfold apV; intro h; omega) (fun k hk x hx => by
   match k, hk, hx with
   | 0, _, hx => rw [show [p1, p2, p3, p4, p5, p6][0] = p1 from rfl, h1.nd] at hx; cases hx
   | 1, _, hx => rw [show [p1, p2, p3, p4, p5, p6][1] = p2 from rfl, h2.nd] at hx; cases hx
   | 2, _, hx => rw [show [p1, p2, p3, p4, p5, p6][2] = p3 from rfl, h3.nd] at hx; cases hx
   | 3, _, hx => rw [show [p1, p2, p3, p4, p5, p6][3] = p4 from rfl, h4.nd] at hx; cases hx
   | 4, _, hx => rw [show [p1, p2, p3, p4, p5, p6][4] = p5 from rfl, h5.nd] at hx; cases hx
   | 5, _, hx => rw [show [p1, p2, p3, p4, p5, p6][5] = p6 from rfl, h6.nd] at hx; cases hx; show 0 + p1.vs + p2.vs + p3.vs + p4.vs + p5.vs = _; rw [h1.vs, h2.vs, h3.vs, h4.vs, h5.vs, hv2]; omega
   | k + 6, hk, _ => simp at hk; omega
   ) w.heap.size _ (hU.later hbP) hPB (fun p hp => by
   simp only [List.mem_cons, List.mem_nil_iff, or_false] at hp
   rcases hp with rfl | rfl | rfl | rfl | rfl | rfl
   · exact hx1.later hbP
   · exact hx2.later hbP
   · exact hx3.later hbP
   · exact hx4.later hbP
   · exact hx5.later hbP
   · exact hx6.later hbP
   )
 rw [madE_of (V := apV C last) (L := apL C last) hsv hml, show [p1, p2, p3, p4, p5, p6].length = 6 from rfl, hsv, hml] at hmd
 exact hmd
set_option maxHeartbeats 16000000 in
theorem clausesD_any (C : Ci) (steps : Int) (w : World) (hC : CIn w C) :
   Calls Tryz.prog 10 #[C.v, .int .i64 steps] w (UnO w (apE C steps) (apV C steps.toNat) (apL C steps.toNat)) := by
 have hb1 : Below w.heap.size w ((w.alloc (.cells #[.int .i64 C.ins, .slice C.p C.ps.length C.cap, .int .i64 C.a, .int .i64 C.s, C.i.v, C.n.v, C.b.v, C.h.v] 27)).alloc (.cells #[.int .i64 0, .slice none 0 0] 30)) := bal (bal (Below.refl _ _) _) _
 have hG : ((w.alloc (.cells #[.int .i64 C.ins, .slice C.p C.ps.length C.cap, .int .i64 C.a, .int .i64 C.s, C.i.v, C.n.v, C.b.v, C.h.v] 27)).alloc (.cells #[.int .i64 0, .slice none 0 0] 30)).heap[w.heap.size + 1]? = some (.cells #[.int .i64 0, .slice none 0 0] 30) := alloc_at (by simp)
 have HIN := hide (hC.later hb1)
 have HNW := hide (newU_any C steps _ HIN.out)
 have HG := hide hG
 have HB1 := hide hb1
 have HE : Hid (apE C steps = if C.e ≠ 0 then C.e else if steps < 0 ∨ 40 < steps then 3 else mdE (apV C steps.toNat) (apL C steps.toNat)) := rfl
 clear hC hb1 hG
 unfold Ci.v circ at HNW
 simp only [Sl.v] at *
 go_enter Tryz.func10, Tryz.ntmps10
 go_wp2_with fail
 generalize (w.alloc (.cells #[.int .i64 C.ins, .slice C.p C.ps.length C.cap, .int .i64 C.a, .int .i64 C.s, .slice C.i.at' C.i.ns.length C.i.cap, .slice C.n.at' C.n.ns.length C.n.cap, .slice C.b.at' C.b.ns.length C.b.cap, .slice C.h.at' C.h.ns.length C.h.cap] 27)).alloc (.cells #[.int .i64 0, .slice none 0 0] 30) = w1 at *
 have hGl : w.heap.size + 1 < w1.heap.size := (Array.getElem?_eq_some_iff.1 HG.out).1
 refine HNW.out.mono ?_
 rintro e w2 ⟨hb2, hcase⟩
 have HB2e := hide hb2
 have HR2 := hide (r30 ((hb2.block _ hGl).trans HG.out))
 rcases hcase with ⟨he, rfl⟩ | ⟨he, hst, rfl⟩ | ⟨he, h0, h40, M, rfl, hU⟩
 · have HX : Hid (apE C steps = C.e) := by unfold Hid; rw [HE.out, if_pos he]
   obtain ⟨g0, g1, f0, f1⟩ := HR2.out.1
   have heb : (C.e != 0) = true := by simpa using he
   have HEND : Hid (UnO w C.e (apV C steps.toNat) (apL C steps.toNat) (.returned (.tuple #[cval 0 none 0 0, .int .i64 C.e])) ((w2.setCell ⟨w.heap.size + 1, 0, none⟩ (.int .i64 0)).setCell ⟨w.heap.size + 1, 1, none⟩ (.slice none 0 0))) :=
     unO_no he (((bthen HB1.out HB2e.out).setCell (p := ⟨w.heap.size + 1, 0, none⟩) (by simp) _).setCell (p := ⟨w.heap.size + 1, 1, none⟩) (by simp) _)
   clear HE he hb2 HNW
   generalize C.e = E at *
   go_wp2
   refine bodyPost_ret (res30 rfl _ rfl (HR2.out.2 _ _)) rfl ?_
   rw [HX.out]
   exact HEND.out
 · have HX : Hid (apE C steps = 3) := by unfold Hid; rw [HE.out, if_neg (by simpa using he), if_pos hst]
   obtain ⟨g0, g1, f0, f1⟩ := HR2.out.1
   have HEND : Hid (UnO w 3 (apV C steps.toNat) (apL C steps.toNat) (.returned (.tuple #[cval 0 none 0 0, .int .i64 3])) ((w2.setCell ⟨w.heap.size + 1, 0, none⟩ (.int .i64 0)).setCell ⟨w.heap.size + 1, 1, none⟩ (.slice none 0 0))) :=
     unO_no (by decide) (((bthen HB1.out HB2e.out).setCell (p := ⟨w.heap.size + 1, 0, none⟩) (by simp) _).setCell (p := ⟨w.heap.size + 1, 1, none⟩) (by simp) _)
   clear HE he hst hb2 HNW
   go_wp2
   refine bodyPost_ret (res30 rfl _ rfl (HR2.out.2 _ _)) rfl ?_
   rw [HX.out]
   exact HEND.out
 have HX : Hid (apE C steps = mdE (apV C steps.toNat) (apL C steps.toNat)) := by unfold Hid; rw [HE.out, if_neg (by simpa using he), if_neg (by omega)]
 obtain ⟨E, HEE⟩ : ∃ E, Hid (mdE (apV C steps.toNat) (apL C steps.toNat) = E) := ⟨_, rfl⟩
 rw [HEE.out] at HX
 have HCO := hide (co_of HIN.out he steps.toNat (by omega))
 have HMA := hide (fun M p1 p2 p3 p4 p5 p6 h1 h2 h3 h4 h5 h6 w' => madeD w1 M C steps.toNat HCO.out p1 p2 p3 p4 p5 p6 h1 h2 h3 h4 h5 h6 w')
 rw [HEE.out] at HMA
 generalize apV C steps.toNat = V at *
 generalize apL C steps.toNat = LL at *
 generalize steps.toNat = last at *
 clear HE he h0 h40 HR2 HB2e HEE
 have hMl := World.block_lt_of_cell? _ _ hU.cm.c0
 simp only at hMl
 have hbP : Below w2.heap.size w2 (w2.alloc (.cells #[.pointer (some ⟨M, 0, none⟩)] 62)) := bal (Below.refl _ _) _
 have x0 : (w2.alloc (.cells #[.pointer (some ⟨M, 0, none⟩)] 62)).cell? ⟨w2.heap.size, 0, none⟩ = some (.pointer (some ⟨M, 0, none⟩)) := by simp [go_sem]
 have hxl : w2.heap.size < (w2.alloc (.cells #[.pointer (some ⟨M, 0, none⟩)] 62)).heap.size := by simp
 have HU := hide (hU.later hbP)
 have HB2 := hide (bthen hb2 hbP)
 have hUM : w2.heap.size ≠ M := by omega
 have hG2 : w.heap.size + 1 ≠ w2.heap.size := by have := hb2.size; omega
 clear HNW hb2 hU hbP
 go_wp2
 generalize w2.alloc (.cells #[.pointer (some ⟨M, 0, none⟩)] 62) = w3 at *
 generalize w2.heap.size = U at *
 have hbd : Below w3.heap.size w3 w3.drew := (Below.refl _ w3).drew
 go_region_held3 (fun w' => w'.cell? ⟨U, 0, none⟩ = some (.pointer (some ⟨M, 0, none⟩)))
   (first | exact yset | exact y11 | exact cell_later k6 x0 | exact cell_later k5 x0 | exact cell_later k4 x0 | exact cell_later k3 x0 | exact cell_later k2 x0 | exact cell_later k1 x0 | exact cell_later hbd x0 | exact cell_later (bal k6 _) x0 | go_keep)
   (first
     | (go_at_call 24; have hq := k6; refine (HMA.out M p1 p2 p3 p4 p5 p6 f1 f2 f3 f4 f5 f6 _ (HU.out.later k6) (((((bx1.later j2).later j3).later j4).later j5).later j6) ((((bx2.later j3).later j4).later j5).later j6) (((bx3.later j4).later j5).later j6) ((bx4.later j5).later j6) (bx5.later j6) bx6).mono ?_
        rintro e w9 ⟨⟨pv, cv, rws, rfl, hn9, hcl9, hb9, hp9, hr9⟩, hm9⟩
        have hh9 := (hm9 U (by have := k6.size; simp; omega) hUM).trans ((bal k6 _).block U hxl)
        have y11 : w9.cell? ⟨U, 0, none⟩ = some (.pointer (some ⟨M, 0, none⟩)) := cell_blk x0 hh9
        have HR9 := hide (r30 ((hb9.block _ hGl).trans HG.out))
        obtain ⟨g0, g1, z0, z1⟩ := HR9.out.1
        have yset : ((w9.setCell ⟨w.heap.size + 1, 0, none⟩ (.int .i64 (ofV E V))).setCell ⟨w.heap.size + 1, 1, none⟩ (.slice pv rws.length cv)).cell? ⟨U, 0, none⟩ = some (.pointer (some ⟨M, 0, none⟩)) := cell_set_far (cell_set_far y11 (fun e => hG2 e.symm)) (fun e => hG2 e.symm))
     | (go_at_call 30; have hq := k5; refine (different_any w1 M C last HCO.out (((last : Int) + 1) * C.f) _ _ _ _ (HU.out.later k5)).mono ?_; rintro e w8 ho; obtain ⟨p6, rfl, f6, bx6, j6⟩ := ptF_of ho; have k6 := bthen k5 j6; unfold Prt.v)
     | (go_at_call 29; have hq := k4; refine (quiet_any w1 M C last HCO.out _ _ _ _ (HU.out.later k4)).mono ?_; rintro e w8 ho; obtain ⟨p5, rfl, f5, bx5, j5⟩ := ptF_of ho; have k5 := bthen k4 j5; unfold Prt.v)
     | (go_at_call 28; have hq := k3; refine (bad_any w1 M C last HCO.out _ _ _ _ (HU.out.later k3)).mono ?_; rintro e w8 ho; obtain ⟨p4, rfl, f4, bx4, j4⟩ := ptF_of ho; have k4 := bthen k3 j4; unfold Prt.v)
     | (go_at_call 27; have hq := k2; refine (holds_any w1 M C last HCO.out _ _ _ _ (HU.out.later k2)).mono ?_; rintro e w8 ho; obtain ⟨p3, rfl, f3, bx3, j3⟩ := ptF_of ho; have k3 := bthen k2 j3; unfold Prt.v)
     | (go_at_call 26; have hq := k1; refine (bonds_any w1 M C last HCO.out _ _ _ _ (HU.out.later k1)).mono ?_; rintro e w8 ho; obtain ⟨p2, rfl, f2, bx2, j2⟩ := ptF_of ho; have k2 := bthen k1 j2; unfold Prt.v)
     | (go_at_call 25; refine (ands_any w1 M C last HCO.out _ _ _ _ (HU.out.later hbd)).mono ?_; rintro e w8 ho; obtain ⟨p1, rfl, f1, bx1, j1⟩ := ptF_of ho; have k1 := bthen hbd j1; unfold Prt.v))
 all_goals
   have HEND := hide (unO_of (V := V) (cv := cv) HB1.out hGl (by omega) hn9 hcl9 hb9 hp9 hr9 (.int .i64 (ofV E V)) (.slice pv rws.length cv))
   rename_i hHeld
   clear hHeld hn9 hcl9 hb9 hp9 hr9 hm9 hh9 y11 yset g0 g1 z0 z1 HMA f1 f2 f3 f4 f5 f6 bx1 bx2 bx3 bx4 bx5 bx6 k1 k2 k3 k4 k5 k6 j1 j2 j3 j4 j5 j6
   generalize ofV E V = V9 at *
   go_wp2
   refine bodyPost_ret (res30 rfl _ rfl (HR9.out.2 _ _)) rfl ?_
   rw [HX.out]
   exact HEND.out
end Go.Proofs.YtmambfdimeeijaaGreatDoor
