/- Steps that differ, of a circuit of one bit: the part's function. -/
import Derived.Test.YtjhkecnnhddhbaaGreatDoorKuM
import Derived.Test.YtjhkecnnhddhbaaGreatDoorKs
import Derived.Test.YtjhkecnnhddhbaaGreatDoorTdM
namespace Go.Proofs.YtjhkecnnhddhbaaGreatDoor
open Go.RowKit Go.Maps Go.WideMaps
set_option maxRecDepth 100000
set_option maxHeartbeats 8000000 in
theorem different_one (w0 : World) (M : Nat) (C : Ci) (hC : CO w0 C 1) (hs : C.s = 1) (V0 : Int) (w : World) (v : Value) (vars : Int) (rs : List Row) (hU : Un w0 w M v vars rs C 1) :
   Calls Tryz.prog 128 #[.agg #[.pointer (some ⟨M, 0, none⟩)]] w (PtOut w0 w M v C 1 1 3 (differT C 0 1 V0) (some V0)) := by
 have HNW := hide (fun g (hg : w.heap.size ≤ g) => hU.new hg)
 have hMl := World.block_lt_of_cell? _ _ hU.cm.c0
 simp only at hMl
 have HMK := hide (fun U cs (hv : (((1 : Nat) : Int) + 1) * C.f ≤ 200000) => different_makes w0 M C ⟨hC, hv⟩ hs U cs V0)
 have hb2 : Below w.heap.size w ((w.alloc (.cells #[.pointer (some ⟨M, 0, none⟩)] 158)).alloc (.cells #[.int .i64 0, .int .i64 0, .nilFunc] 45)) := bal (bal (Below.refl _ _) _) _
 have x5 := cell_later hb2 hU.un.u5
 have x10 := cell_later hb2 hU.un.u10
 rw [hs] at x5
 rw [show ((1 : Nat) : Int) = (1 : Int) from rfl] at x10
 have y0 : ((w.alloc (.cells #[.pointer (some ⟨M, 0, none⟩)] 158)).alloc (.cells #[.int .i64 0, .int .i64 0, .nilFunc] 45)).cell? ⟨w.heap.size, 0, none⟩ = some (.pointer (some ⟨M, 0, none⟩)) := by simp [go_sem]
 have hg : ((w.alloc (.cells #[.pointer (some ⟨M, 0, none⟩)] 158)).alloc (.cells #[.int .i64 0, .int .i64 0, .nilFunc] 45)).heap[w.heap.size + 1]? = some (.cells #[.int .i64 0, .int .i64 0, .nilFunc] 45) := alloc_at (by simp)
 have HG := hide hg
 have HB2 := hide hb2
 clear hC hU hb2 hg
 go_enter Tryz.func128, Tryz.ntmps128
 go_wp2
 generalize (w.alloc (.cells #[.pointer (some ⟨M, 0, none⟩)] 158)).alloc (.cells #[.int .i64 0, .int .i64 0, .nilFunc] 45) = w3 at *
 go_quiet (fail)
 have hbq : Below w3.heap.size w3 (w3.drewN nq) := bdn (Below.refl _ _) nq
 have z0 := cell_later hbq y0
 have z5 := cell_later hbq x5
 have HG4 := hide ((hbq.block (w.heap.size + 1) (Array.getElem?_eq_some_iff.1 HG.out).1).trans HG.out)
 have HB4 := hide (bthen HB2.out hbq)
 clear HG HB2 hbq y0 x5 x10
 generalize w3.drewN nq = w4 at *
 have hbd : Below w4.heap.size w4 w4.drew := (Below.refl _ w4).drew
 have HR := hide (r45 HG4.out)
 obtain ⟨q0, q1, q2, f0, f1, f2⟩ := HR.out.1
 have HBX : Hid (Bxs w4 v M [(⟨w.heap.size, 0, none⟩, .pointer (some ⟨M, 0, none⟩))]) := fun q x hq => by
   simp only [List.mem_cons, List.mem_nil_iff, or_false, Prod.mk.injEq] at hq
   rcases hq with ⟨rfl, rfl⟩
   exact ⟨z0, HNW.out _ (Nat.le_refl _)⟩
 have hbs := set3_bxs HBX.out (R := w.heap.size + 1) (fun q x hq => by
     simp only [List.mem_cons, List.mem_nil_iff, or_false, Prod.mk.injEq] at hq
     rcases hq with ⟨rfl, rfl⟩
     simp) (.int .i64 1) (.int .i64 3) (.func (.func 156) #[] #[.pointer (some ⟨w.heap.size, 0, none⟩)])
 have HEND : Hid (PtOut w0 w M v C 1 1 3 (differT C 0 1 V0) (some V0) (.returned (.agg #[.int .i64 1, .int .i64 3, .func (.func 156) #[] #[.pointer (some ⟨w.heap.size, 0, none⟩)]])) (set3 w4 (w.heap.size + 1) (.int .i64 1) (.int .i64 3) (.func (.func 156) #[] #[.pointer (some ⟨w.heap.size, 0, none⟩)])).drew) :=
   ⟨_, rfl, rfl, rfl, rfl, rfl, (set3_below HB4.out (by omega) _ _ _).drew, hbs.later (Below.refl _ _).drew, HMK.out w.heap.size 3, enter156⟩
 have w1 := wrap_id (x := 1) (by decide) (by decide)
 have w2 := wrap_id (x := 2) (by decide) (by decide)
 have w3 := wrap_id (x := 3) (by decide) (by decide)
 clear hbs
 go_wp2
 go_region_held3 (fun w' => w'.cell? ⟨w.heap.size, 0, none⟩ = some (.pointer (some ⟨M, 0, none⟩)) ∧ w'.cell? ⟨M, 5, none⟩ = some (.int .i64 1))
   (first | exact ⟨cell_later hbd z0, cell_later hbd z5⟩ | exact ⟨z0, z5⟩ | exact ⟨cell_set_far (cell_set_far (cell_set_far z0 (by simp)) (by simp)) (by simp), cell_set_far (cell_set_far (cell_set_far z5 (by simp; omega)) (by simp; omega)) (by simp; omega)⟩ | go_keep)
   (fail)
 all_goals
   rename_i hHeld
   clear hHeld hbd z0 z5 HG4 HB4 HMK HNW HBX
   go_wp2
   refine bodyPost_ret (results_cell_row rfl _ _ (w.heap.size + 1) 45 _ _ _ rfl (HR.out.2 _ _ _) Tryz.underlying45 rfl (by kernel_rfl)) rfl ?_
   exact HEND.out
end Go.Proofs.YtjhkecnnhddhbaaGreatDoor

namespace Go.Proofs.YtjhkecnnhddhbaaGreatDoor
open Go.RowKit Go.Maps Go.WideMaps
set_option maxRecDepth 100000
theorem turn_one {y : Int} : turn y = 1 ↔ y = 0 := by
 unfold turn
 split
 · rename_i h1
   have : y % 2 = 1 := by simpa [odd] using h1
   omega
 · omega
theorem quiet_len {w : World} {C : Ci} {last : Nat} (h : CO w C last) : (stepsL (quietT C) last).length = last * cntB 0 C.b.ns C.b.ns.length := by
 refine stepsL_len fun t _ => stepsL_cnt (g := fun k => cntB 0 C.b.ns k) rfl fun k hk => ?_
 have hx := h.nb _ (getD_mem' hk)
 have ha := atL_one (h.t0 t) hx.1
 simp only [cntB_succ hk]
 unfold quietC
 rw [rootC_len]
 simp only [turn_one, ha.1]
def apartL (C : Ci) : List (List Int) := stepsL (fun t => andsT C t C.ps.length) 2 ++ (stepsL (bondsT C) 1 ++ (stepsL (holdsT C) 2 ++ (badC C 1 ++ (stepsL (quietT C) 1 ++ differT C 0 1 (2 * C.f)))))
structure PtF (w0 : World) (M : Nat) (C : Ci) (last : Nat) (p : Prt) (vs : Int) (cs : Int) (L : List (List Int)) (nd : Option Int) : Prop where
 vs : p.vs = vs
 cs : p.cs = cs
 L : p.L = L
 nd : p.need = nd
 mks : ((last : Int) + 1) * C.f ≤ 200000 → Makes w0 M C last p
 en : ∀ (args : Array Value) (w : World), (callFunc p.fn args).run Tryz.prog w = .ok (.enter p.fn args) w
set_option maxHeartbeats 4000000 in
theorem madeA (w1 : World) (M : Nat) (C : Ci) (hCO : CO w1 C 1) (hs : C.s = 1) (hf : 2 * C.f + 1 ≤ 200000) (hlen : (apartL C).length ≤ 800000) (hsh : ∀ c ∈ apartL C, c.length ≤ 4000000) (hck : chkC (2 * C.f + 1) (apartL C) = 0) (p1 p2 p3 p4 p5 p6 : Prt)
   (h1 : PtF w1 M C 1 p1 (((1 + 1 : Nat) : Int) * C.f) ((1 + 1) * (3 * C.ps.length) : Nat) (stepsL (fun t => andsT C t C.ps.length) (1 + 1)) none)
   (h2 : PtF w1 M C 1 p2 0 (1 * (cntB 0 C.n.ns C.n.ns.length + cntB 1 C.n.ns C.n.ns.length) : Nat) (stepsL (bondsT C) 1) none)
   (h3 : PtF w1 M C 1 p3 0 ((1 + 1) * cntB 1 C.h.ns C.h.ns.length : Nat) (stepsL (holdsT C) (1 + 1)) none)
   (h4 : PtF w1 M C 1 p4 0 ((badC C 1).length : Nat) (badC C 1) none)
   (h5 : PtF w1 M C 1 p5 0 (1 * cntB 0 C.b.ns C.b.ns.length : Nat) (stepsL (quietT C) 1) none)
   (h6 : PtF w1 M C 1 p6 1 3 (differT C 0 1 (2 * C.f)) (some (2 * C.f)))
   (w : World) (hU : Un w1 w M (.slice none 0 0) 0 [] C 1) (hx1 : Bxs w (.slice none 0 0) M p1.bx) (hx2 : Bxs w (.slice none 0 0) M p2.bx) (hx3 : Bxs w (.slice none 0 0) M p3.bx) (hx4 : Bxs w (.slice none 0 0) M p4.bx) (hx5 : Bxs w (.slice none 0 0) M p5.bx) (hx6 : Bxs w (.slice none 0 0) M p6.bx) :
   Calls Tryz.prog 11 #[.pointer (some ⟨M, 0, none⟩), .slice (some ⟨w.heap.size, 0, none⟩) 6 6] (w.alloc (.cells #[.int .i64 p1.vs, .int .i64 p1.cs, .func (.func p1.fn) #[] p1.caps, .int .i64 p2.vs, .int .i64 p2.cs, .func (.func p2.fn) #[] p2.caps, .int .i64 p3.vs, .int .i64 p3.cs, .func (.func p3.fn) #[] p3.caps, .int .i64 p4.vs, .int .i64 p4.cs, .func (.func p4.fn) #[] p4.caps, .int .i64 p5.vs, .int .i64 p5.cs, .func (.func p5.fn) #[] p5.caps, .int .i64 p6.vs, .int .i64 p6.cs, .func (.func p6.fn) #[] p6.caps] 45)) (fun e w' => MdOut w1 0 (2 * C.f + 1) (apartL C) e w' ∧ MdKp (w.alloc (.cells #[.int .i64 p1.vs, .int .i64 p1.cs, .func (.func p1.fn) #[] p1.caps, .int .i64 p2.vs, .int .i64 p2.cs, .func (.func p2.fn) #[] p2.caps, .int .i64 p3.vs, .int .i64 p3.cs, .func (.func p3.fn) #[] p3.caps, .int .i64 p4.vs, .int .i64 p4.cs, .func (.func p4.fn) #[] p4.caps, .int .i64 p5.vs, .int .i64 p5.cs, .func (.func p5.fn) #[] p5.caps, .int .i64 p6.vs, .int .i64 p6.cs, .func (.func p6.fn) #[] p6.caps] 45)) M w') := by
 have hbP : Below w.heap.size w (w.alloc (.cells #[.int .i64 p1.vs, .int .i64 p1.cs, .func (.func p1.fn) #[] p1.caps, .int .i64 p2.vs, .int .i64 p2.cs, .func (.func p2.fn) #[] p2.caps, .int .i64 p3.vs, .int .i64 p3.cs, .func (.func p3.fn) #[] p3.caps, .int .i64 p4.vs, .int .i64 p4.cs, .func (.func p4.fn) #[] p4.caps, .int .i64 p5.vs, .int .i64 p5.cs, .func (.func p5.fn) #[] p5.caps, .int .i64 p6.vs, .int .i64 p6.cs, .func (.func p6.fn) #[] p6.caps] 45)) := bal (Below.refl _ _) _
 have hnw := hU.new (Nat.le_refl w.heap.size)
 have hlf := hCO.lf
 have hf0 := hCO.f0
 have hv2 : ((1 + 1 : Nat) : Int) * C.f = 2 * C.f := rfl
 have hpl := hCO.p1
 have b1 := cntB_le 0 C.n.ns C.n.ns.length; have b2 := cntB_le 1 C.n.ns C.n.ns.length; have b3 := cntB_le 1 C.h.ns C.h.ns.length; have b4 := cntB_le 0 C.b.ns C.b.ns.length
 have c1 := hCO.nl; have c2 := hCO.sm; have c3 := hCO.i1; have c4 := hCO.a0; have c5 := hCO.hl; have c6 := hCO.bl
 have hbadl : (badC C 1).length ≤ 1 := by unfold badC; split <;> simp
 have hPB : PrB (w.alloc (.cells #[.int .i64 p1.vs, .int .i64 p1.cs, .func (.func p1.fn) #[] p1.caps, .int .i64 p2.vs, .int .i64 p2.cs, .func (.func p2.fn) #[] p2.caps, .int .i64 p3.vs, .int .i64 p3.cs, .func (.func p3.fn) #[] p3.caps, .int .i64 p4.vs, .int .i64 p4.cs, .func (.func p4.fn) #[] p4.caps, .int .i64 p5.vs, .int .i64 p5.cs, .func (.func p5.fn) #[] p5.caps, .int .i64 p6.vs, .int .i64 p6.cs, .func (.func p6.fn) #[] p6.caps] 45)) (.slice none 0 0) M w.heap.size [p1, p2, p3, p4, p5, p6] := ⟨hnw.1, hnw.2, fun i hi => by
   match i, hi with
   | 0, _ => exact ⟨by simp [go_sem], by simp [go_sem], by simp [go_sem]⟩
   | 1, _ => exact ⟨by simp [go_sem], by simp [go_sem], by simp [go_sem]⟩
   | 2, _ => exact ⟨by simp [go_sem], by simp [go_sem], by simp [go_sem]⟩
   | 3, _ => exact ⟨by simp [go_sem], by simp [go_sem], by simp [go_sem]⟩
   | 4, _ => exact ⟨by simp [go_sem], by simp [go_sem], by simp [go_sem]⟩
   | 5, _ => exact ⟨by simp [go_sem], by simp [go_sem], by simp [go_sem]⟩
   | k + 6, hi => simp at hi; omega⟩
 have hsv : sumV [p1, p2, p3, p4, p5, p6] 6 = 2 * C.f + 1 := by
   show 0 + p1.vs + p2.vs + p3.vs + p4.vs + p5.vs + p6.vs = _
   rw [h1.vs, h2.vs, h3.vs, h4.vs, h5.vs, h6.vs]; omega
 have hml : madeL [p1, p2, p3, p4, p5, p6] 6 = apartL C := by
   show p1.L ++ (p2.L ++ (p3.L ++ (p4.L ++ (p5.L ++ (p6.L ++ []))))) = _
   rw [h1.L, h2.L, h3.L, h4.L, h5.L, h6.L]; simp [apartL]
 have hmd := made_parts w1 M C 1 [p1, p2, p3, p4, p5, p6] (by simp) (by simp) (fun p hp => by
   simp only [List.mem_cons, List.mem_nil_iff, or_false] at hp
   rcases hp with rfl | rfl | rfl | rfl | rfl | rfl
   · exact pok_of (n := ((1 + 1) * (3 * C.ps.length))) h1.vs (by rw [h1.cs]) h1.L (by omega) (by omega) (ands_len hCO) (by omega) h1.mks h1.en
   · exact pok_of (n := (1 * (cntB 0 C.n.ns C.n.ns.length + cntB 1 C.n.ns C.n.ns.length))) h2.vs (by rw [h2.cs]) h2.L (by omega) (by omega) (bonds_len hCO) (by omega) h2.mks h2.en
   · exact pok_of (n := ((1 + 1) * cntB 1 C.h.ns C.h.ns.length)) h3.vs (by rw [h3.cs]) h3.L (by omega) (by omega) (holds_len hCO) (by omega) h3.mks h3.en
   · exact pok_of (n := ((badC C 1).length)) h4.vs (by rw [h4.cs]) h4.L (by omega) (by omega) (rfl) (by omega) h4.mks h4.en
   · exact pok_of (n := (1 * cntB 0 C.b.ns C.b.ns.length)) h5.vs (by rw [h5.cs]) h5.L (by omega) (by omega) (quiet_len hCO) (by omega) h5.mks h5.en
   · exact pok_of (n := 3) h6.vs (by rw [h6.cs]; rfl) h6.L (by omega) (by omega) (by unfold differT; rw [List.length_append, differ_len, hs]; rfl) (by omega) h6.mks h6.en
   ) (fun c hc => hsh c (by rw [show [p1, p2, p3, p4, p5, p6].length = 6 from rfl, hml] at hc; exact hc)) (fun _ => by show (1 + 1) * C.f ≤ 200000; omega) (fun k hk x hx => by
   match k, hk, hx with
   | 0, _, hx => rw [show [p1, p2, p3, p4, p5, p6][0] = p1 from rfl, h1.nd] at hx; cases hx
   | 1, _, hx => rw [show [p1, p2, p3, p4, p5, p6][1] = p2 from rfl, h2.nd] at hx; cases hx
   | 2, _, hx => rw [show [p1, p2, p3, p4, p5, p6][2] = p3 from rfl, h3.nd] at hx; cases hx
   | 3, _, hx => rw [show [p1, p2, p3, p4, p5, p6][3] = p4 from rfl, h4.nd] at hx; cases hx
   | 4, _, hx => rw [show [p1, p2, p3, p4, p5, p6][4] = p5 from rfl, h5.nd] at hx; cases hx
   | 5, _, hx => rw [show [p1, p2, p3, p4, p5, p6][5] = p6 from rfl, h6.nd] at hx; cases hx; show 0 + p1.vs + p2.vs + p3.vs + p4.vs + p5.vs = _; rw [h1.vs, h2.vs, h3.vs, h4.vs, h5.vs]; omega
   | k + 6, hk, _ => simp at hk; omega
   ) w.heap.size _ (hU.later hbP) hPB (fun p hp => by
   simp only [List.mem_cons, List.mem_nil_iff, or_false] at hp
   rcases hp with rfl | rfl | rfl | rfl | rfl | rfl
   · exact hx1.later hbP
   · exact hx2.later hbP
   · exact hx3.later hbP
   · exact hx4.later hbP
   · exact hx5.later hbP
   · exact hx6.later hbP
   )
 rw [madE_of (V := 2 * C.f + 1) (L := apartL C) hsv hml, if_neg (by omega), if_neg (by omega), hck, show [p1, p2, p3, p4, p5, p6].length = 6 from rfl, hsv, hml] at hmd
 exact hmd
end Go.Proofs.YtjhkecnnhddhbaaGreatDoor

namespace Go.Proofs.YtjhkecnnhddhbaaGreatDoor
open Go.RowKit Go.Maps Go.WideMaps
set_option maxRecDepth 100000
theorem cell_blk {w1 w2 : World} {a : Addr} {v : Value} (h : w1.cell? a = some v) (hb : w2.heap[a.block]? = w1.heap[a.block]?) : w2.cell? a = some v := by
 rw [World.cell?_of_block (w := w1) (a := a) hb]; exact h
theorem ptF_of {w0 w w' : World} {M : Nat} {v : Value} {C : Ci} {last : Nat} {vs cs : Int} {L : List (List Int)} {nd : Option Int} {e : Ending} (h : PtOut w0 w M v C last vs cs L nd e w') :
   ∃ p : Prt, e = .returned p.v ∧ PtF w0 M C last p vs cs L nd ∧ Bxs w' v M p.bx ∧ Below w.heap.size w w' := by
 obtain ⟨p, h1, h2, h3, h4, h5, h6, h7, h8, h9⟩ := h
 exact ⟨p, h1, ⟨h2, h3, h4, h5, h8, h9⟩, h7, h6⟩
set_option maxHeartbeats 16000000 in
theorem clausesA_one (C : Ci) (hs : C.s = 1) (he : C.e = 0) (hf : 2 * C.f + 1 ≤ 200000) (hlen : (apartL C).length ≤ 800000) (hsh : ∀ c ∈ apartL C, c.length ≤ 4000000) (hck : chkC (2 * C.f + 1) (apartL C) = 0) (w : World) (hC : CIn w C) :
   Calls Tryz.prog 101 #[C.v, .int .i64 1] w (UnO w 0 (2 * C.f + 1) (apartL C)) := by
 have hb1 : Below w.heap.size w ((w.alloc (.cells #[.int .i64 C.ins, .slice C.p C.ps.length C.cap, .int .i64 C.a, .int .i64 C.s, C.i.v, C.n.v, C.b.v, C.h.v] 27)).alloc (.cells #[.int .i64 0, .slice none 0 0] 30)) := bal (bal (Below.refl _ _) _) _
 have hG : ((w.alloc (.cells #[.int .i64 C.ins, .slice C.p C.ps.length C.cap, .int .i64 C.a, .int .i64 C.s, C.i.v, C.n.v, C.b.v, C.h.v] 27)).alloc (.cells #[.int .i64 0, .slice none 0 0] 30)).heap[w.heap.size + 1]? = some (.cells #[.int .i64 0, .slice none 0 0] 30) := alloc_at (by simp)
 have HIN := hide (hC.later hb1)
 have HNW := hide (newU_any C 1 _ HIN.out)
 have HG := hide hG
 have HB1 := hide hb1
 have HCO := hide (co_of HIN.out he 1 (by decide))
 have HLL := hide (And.intro hlen (And.intro hsh hck))
 have HE := hide he
 have HS := hide hs
 clear hC hb1 hG hlen hsh hck he hs
 unfold Ci.v circ at HNW
 simp only [Sl.v] at *
 go_enter Tryz.func101, Tryz.ntmps101
 go_wp2_with fail
 generalize (w.alloc (.cells #[.int .i64 C.ins, .slice C.p C.ps.length C.cap, .int .i64 C.a, .int .i64 C.s, .slice C.i.at' C.i.ns.length C.i.cap, .slice C.n.at' C.n.ns.length C.n.cap, .slice C.b.at' C.b.ns.length C.b.cap, .slice C.h.at' C.h.ns.length C.h.cap] 27)).alloc (.cells #[.int .i64 0, .slice none 0 0] 30) = w1 at *
 have HMA := hide (fun M p1 p2 p3 p4 p5 p6 h1 h2 h3 h4 h5 h6 w' => madeA w1 M C HCO.out HS.out hf HLL.out.1 HLL.out.2.1 HLL.out.2.2 p1 p2 p3 p4 p5 p6 h1 h2 h3 h4 h5 h6 w')
 have hGl : w.heap.size + 1 < w1.heap.size := (Array.getElem?_eq_some_iff.1 HG.out).1
 refine HNW.out.mono ?_
 rintro e w2 ⟨hb2, hcase⟩
 obtain ⟨M, rfl, hU⟩ : ∃ M, e = .returned (.tuple #[.pointer (some ⟨M, 0, none⟩), .int .i64 0]) ∧ Un w1 w2 M (.slice none 0 0) 0 [] C 1 := by
   rcases hcase with ⟨h, _⟩ | ⟨_, h, _⟩ | ⟨_, _, _, M, h1, h2⟩
   · exact absurd HE.out h
   · omega
   · exact ⟨M, h1, h2⟩
 have hMl := World.block_lt_of_cell? _ _ hU.cm.c0
 simp only at hMl
 have hbP : Below w2.heap.size w2 (w2.alloc (.cells #[.pointer (some ⟨M, 0, none⟩)] 158)) := bal (Below.refl _ _) _
 have x0 : (w2.alloc (.cells #[.pointer (some ⟨M, 0, none⟩)] 158)).cell? ⟨w2.heap.size, 0, none⟩ = some (.pointer (some ⟨M, 0, none⟩)) := by simp [go_sem]
 have hxl : w2.heap.size < (w2.alloc (.cells #[.pointer (some ⟨M, 0, none⟩)] 158)).heap.size := by simp
 have HU := hide (hU.later hbP)
 have HB2 := hide (bthen hb2 hbP)
 have hUM : w2.heap.size ≠ M := by omega
 have hG2 : w.heap.size + 1 ≠ w2.heap.size := by have := hb2.size; omega
 clear HNW hb2 hcase hU hbP
 go_wp2
 generalize w2.alloc (.cells #[.pointer (some ⟨M, 0, none⟩)] 158) = w3 at *
 generalize w2.heap.size = U at *
 have hbd : Below w3.heap.size w3 w3.drew := (Below.refl _ w3).drew
 go_region_held3 (fun w' => w'.cell? ⟨U, 0, none⟩ = some (.pointer (some ⟨M, 0, none⟩)))
   (first | exact yset | exact y11 | exact cell_later k6 x0 | exact cell_later k5 x0 | exact cell_later k4 x0 | exact cell_later k3 x0 | exact cell_later k2 x0 | exact cell_later k1 x0 | exact cell_later hbd x0 | exact cell_later (bal k6 _) x0 | go_keep)
   (first
     | (go_at_call 11; have hq := k6; refine (HMA.out M p1 p2 p3 p4 p5 p6 f1 f2 f3 f4 f5 f6 _ (HU.out.later k6) (((((bx1.later j2).later j3).later j4).later j5).later j6) ((((bx2.later j3).later j4).later j5).later j6) (((bx3.later j4).later j5).later j6) ((bx4.later j5).later j6) (bx5.later j6) bx6).mono ?_
        rintro e w9 ⟨⟨pv, cv, rws, rfl, hn9, hcl9, hb9, hp9, hr9⟩, hm9⟩
        have hh9 := (hm9 U (by have := k6.size; simp; omega) hUM).trans ((bal k6 _).block U hxl)
        have y11 : w9.cell? ⟨U, 0, none⟩ = some (.pointer (some ⟨M, 0, none⟩)) := cell_blk x0 hh9
        have HR9 := hide (r30 ((hb9.block _ hGl).trans HG.out))
        obtain ⟨g0, g1, z0, z1⟩ := HR9.out.1
        have yset : ((w9.setCell ⟨w.heap.size + 1, 0, none⟩ (.int .i64 (ofV 0 (2 * C.f + 1)))).setCell ⟨w.heap.size + 1, 1, none⟩ (.slice pv rws.length cv)).cell? ⟨U, 0, none⟩ = some (.pointer (some ⟨M, 0, none⟩)) := cell_set_far (cell_set_far y11 (fun e => hG2 e.symm)) (fun e => hG2 e.symm))
     | (go_at_call 128; have hq := k5; refine (different_one w1 M C HCO.out HS.out (2 * C.f) _ _ _ _ (HU.out.later k5)).mono ?_; rintro e w8 ho; obtain ⟨p6, rfl, f6, bx6, j6⟩ := ptF_of ho; have k6 := bthen k5 j6; unfold Prt.v)
     | (go_at_call 127; have hq := k4; refine (quiet_any w1 M C 1 HCO.out _ _ _ _ (HU.out.later k4)).mono ?_; rintro e w8 ho; obtain ⟨p5, rfl, f5, bx5, j5⟩ := ptF_of ho; have k5 := bthen k4 j5; unfold Prt.v)
     | (go_at_call 15; have hq := k3; refine (bad_any w1 M C 1 HCO.out _ _ _ _ (HU.out.later k3)).mono ?_; rintro e w8 ho; obtain ⟨p4, rfl, f4, bx4, j4⟩ := ptF_of ho; have k4 := bthen k3 j4; unfold Prt.v)
     | (go_at_call 14; have hq := k2; refine (holds_any w1 M C 1 HCO.out _ _ _ _ (HU.out.later k2)).mono ?_; rintro e w8 ho; obtain ⟨p3, rfl, f3, bx3, j3⟩ := ptF_of ho; have k3 := bthen k2 j3; unfold Prt.v)
     | (go_at_call 13; have hq := k1; refine (bonds_any w1 M C 1 HCO.out _ _ _ _ (HU.out.later k1)).mono ?_; rintro e w8 ho; obtain ⟨p2, rfl, f2, bx2, j2⟩ := ptF_of ho; have k2 := bthen k1 j2; unfold Prt.v)
     | (go_at_call 12; refine (ands_any w1 M C 1 HCO.out _ _ _ _ (HU.out.later hbd)).mono ?_; rintro e w8 ho; obtain ⟨p1, rfl, f1, bx1, j1⟩ := ptF_of ho; have k1 := bthen hbd j1; unfold Prt.v))
 all_goals
   have HEND := hide (unO_of (V := 2 * C.f + 1) (cv := cv) HB1.out hGl (by omega) hn9 hcl9 hb9 hp9 hr9 (.int .i64 (ofV 0 (2 * C.f + 1))) (.slice pv rws.length cv))
   rename_i hHeld
   clear hHeld hn9 hcl9 hb9 hp9 hr9 hm9 hh9 y11 yset g0 g1 z0 z1 HMA f1 f2 f3 f4 f5 f6 bx1 bx2 bx3 bx4 bx5 bx6 k1 k2 k3 k4 k5 k6 j1 j2 j3 j4 j5 j6
   generalize ofV 0 (2 * C.f + 1) = V9 at *
   go_wp2
   refine bodyPost_ret (res30 rfl _ rfl (HR9.out.2 _ _)) rfl ?_
   exact HEND.out
end Go.Proofs.YtjhkecnnhddhbaaGreatDoor
