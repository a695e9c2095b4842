/- Steps that differ, of a circuit of one bit: Clauses of one step. -/
import Derived.Test.YtjhkecnnhddhbaaGreatDoorKw
namespace Go.Proofs.YtjhkecnnhddhbaaGreatDoor
open Go.RowKit Go.Maps Go.WideMaps
set_option maxRecDepth 100000
set_option autoImplicit false

theorem cell_blk {w1 w2 : World} {a : Addr} {v : Value} (h : w1.cell? a = some v) (hb : w2.heap[a.block]? = w1.heap[a.block]?) : w2.cell? a = some v := by
  rw [World.cell?_of_block (w := w1) (a := a) hb]; exact h
theorem ptF_of {w0 w w' : World} {M : Nat} {v : Value} {C : Ci} {last : Nat} {vs cs : Int} {L : List (List Int)} {nd : Option Int} {e : Ending} (h : PtOut w0 w M v C last vs cs L nd e w') :
    ∃ p : Prt, e = .returned p.v ∧ PtF w0 M C last p vs cs L nd ∧ Bxs w' v M p.bx ∧ Below w.heap.size w w' := by
  obtain ⟨p, h1, h2, h3, h4, h5, h6, h7, h8, h9⟩ := h
  exact ⟨p, h1, ⟨h2, h3, h4, h5, h8, h9⟩, h7, h6⟩

set_option maxHeartbeats 16000000 in
theorem clausesA_one (C : Ci) (hs : C.s = 1) (he : C.e = 0) (hf : 2 * C.f + 1 ≤ 200000) (hlen : (apartL C).length ≤ 800000) (hsh : ∀ c ∈ apartL C, c.length ≤ 4000000) (hck : chkC (2 * C.f + 1) (apartL C) = 0) (w : World) (hC : CIn w C) :
    Calls Tryz.prog 101 #[C.v, .int .i64 1] w (UnO w 0 (2 * C.f + 1) (apartL C)) := by
  have hb1 : Below w.heap.size w ((w.alloc (.cells #[.int .i64 C.ins, .slice C.p C.ps.length C.cap, .int .i64 C.a, .int .i64 C.s, C.i.v, C.n.v, C.b.v, C.h.v] 27)).alloc (.cells #[.int .i64 0, .slice none 0 0] 30)) := bal (bal (Below.refl _ _) _) _
  have hG : ((w.alloc (.cells #[.int .i64 C.ins, .slice C.p C.ps.length C.cap, .int .i64 C.a, .int .i64 C.s, C.i.v, C.n.v, C.b.v, C.h.v] 27)).alloc (.cells #[.int .i64 0, .slice none 0 0] 30)).heap[w.heap.size + 1]? = some (.cells #[.int .i64 0, .slice none 0 0] 30) := alloc_at (by simp)
  have HIN := hide (hC.later hb1)
  have HNW := hide (newU_any C 1 _ HIN.out)
  have HG := hide hG
  have HB1 := hide hb1
  have HCO := hide (co_of HIN.out he 1 (by decide))
  have HLL := hide (And.intro hlen (And.intro hsh hck))
  have HE := hide he
  have HS := hide hs
  clear hC hb1 hG hlen hsh hck he hs
  unfold Ci.v circ at HNW
  simp only [Sl.v] at *
  go_enter Tryz.func101, Tryz.ntmps101
  go_wp2_with fail
  generalize (w.alloc (.cells #[.int .i64 C.ins, .slice C.p C.ps.length C.cap, .int .i64 C.a, .int .i64 C.s, .slice C.i.at' C.i.ns.length C.i.cap, .slice C.n.at' C.n.ns.length C.n.cap, .slice C.b.at' C.b.ns.length C.b.cap, .slice C.h.at' C.h.ns.length C.h.cap] 27)).alloc (.cells #[.int .i64 0, .slice none 0 0] 30) = w1 at *
  have HMA := hide (fun M p1 p2 p3 p4 p5 p6 h1 h2 h3 h4 h5 h6 w' => madeA w1 M C HCO.out HS.out hf HLL.out.1 HLL.out.2.1 HLL.out.2.2 p1 p2 p3 p4 p5 p6 h1 h2 h3 h4 h5 h6 w')
  have hGl : w.heap.size + 1 < w1.heap.size := (Array.getElem?_eq_some_iff.1 HG.out).1
  refine HNW.out.mono ?_
  rintro e w2 ⟨hb2, hcase⟩
  obtain ⟨M, rfl, hU⟩ : ∃ M, e = .returned (.tuple #[.pointer (some ⟨M, 0, none⟩), .int .i64 0]) ∧ Un w1 w2 M (.slice none 0 0) 0 [] C 1 := by
    rcases hcase with ⟨h, _⟩ | ⟨_, h, _⟩ | ⟨_, _, _, M, h1, h2⟩
    · exact absurd HE.out h
    · omega
    · exact ⟨M, h1, h2⟩
  have hMl := World.block_lt_of_cell? _ _ hU.cm.c0
  simp only at hMl
  have hbP : Below w2.heap.size w2 (w2.alloc (.cells #[.pointer (some ⟨M, 0, none⟩)] 158)) := bal (Below.refl _ _) _
  have x0 : (w2.alloc (.cells #[.pointer (some ⟨M, 0, none⟩)] 158)).cell? ⟨w2.heap.size, 0, none⟩ = some (.pointer (some ⟨M, 0, none⟩)) := by simp [go_sem]
  have hxl : w2.heap.size < (w2.alloc (.cells #[.pointer (some ⟨M, 0, none⟩)] 158)).heap.size := by simp
  have HU := hide (hU.later hbP)
  have HB2 := hide (bthen hb2 hbP)
  have hUM : w2.heap.size ≠ M := by omega
  have hG2 : w.heap.size + 1 ≠ w2.heap.size := by have := hb2.size; omega
  clear HNW hb2 hcase hU hbP
  go_wp2
  generalize w2.alloc (.cells #[.pointer (some ⟨M, 0, none⟩)] 158) = w3 at *
  generalize w2.heap.size = U at *
  have hbd : Below w3.heap.size w3 w3.drew := (Below.refl _ w3).drew
  go_region_held3 (fun w' => w'.cell? ⟨U, 0, none⟩ = some (.pointer (some ⟨M, 0, none⟩)))
    (first | exact yset | exact y11 | exact cell_later k6 x0 | exact cell_later k5 x0 | exact cell_later k4 x0 | exact cell_later k3 x0 | exact cell_later k2 x0 | exact cell_later k1 x0 | exact cell_later hbd x0 | exact cell_later (bal k6 _) x0 | go_keep)
    (first
      | (go_at_call 11; have hq := k6; refine (HMA.out M p1 p2 p3 p4 p5 p6 f1 f2 f3 f4 f5 f6 _ (HU.out.later k6) (((((bx1.later j2).later j3).later j4).later j5).later j6) ((((bx2.later j3).later j4).later j5).later j6) (((bx3.later j4).later j5).later j6) ((bx4.later j5).later j6) (bx5.later j6) bx6).mono ?_
         rintro e w9 ⟨⟨pv, cv, rws, rfl, hn9, hcl9, hb9, hp9, hr9⟩, hm9⟩
         have hh9 := (hm9 U (by have := k6.size; simp; omega) hUM).trans ((bal k6 _).block U hxl)
         have y11 : w9.cell? ⟨U, 0, none⟩ = some (.pointer (some ⟨M, 0, none⟩)) := cell_blk x0 hh9
         have HR9 := hide (r30 ((hb9.block _ hGl).trans HG.out))
         obtain ⟨g0, g1, z0, z1⟩ := HR9.out.1
         have yset : ((w9.setCell ⟨w.heap.size + 1, 0, none⟩ (.int .i64 (ofV 0 (2 * C.f + 1)))).setCell ⟨w.heap.size + 1, 1, none⟩ (.slice pv rws.length cv)).cell? ⟨U, 0, none⟩ = some (.pointer (some ⟨M, 0, none⟩)) := cell_set_far (cell_set_far y11 (fun e => hG2 e.symm)) (fun e => hG2 e.symm))
      | (go_at_call 128; have hq := k5; refine (different_one w1 M C HCO.out HS.out (2 * C.f) _ _ _ _ (HU.out.later k5)).mono ?_; rintro e w8 ho; obtain ⟨p6, rfl, f6, bx6, j6⟩ := ptF_of ho; have k6 := bthen k5 j6; unfold Prt.v)
      | (go_at_call 127; have hq := k4; refine (quiet_any w1 M C 1 HCO.out _ _ _ _ (HU.out.later k4)).mono ?_; rintro e w8 ho; obtain ⟨p5, rfl, f5, bx5, j5⟩ := ptF_of ho; have k5 := bthen k4 j5; unfold Prt.v)
      | (go_at_call 15; have hq := k3; refine (bad_any w1 M C 1 HCO.out _ _ _ _ (HU.out.later k3)).mono ?_; rintro e w8 ho; obtain ⟨p4, rfl, f4, bx4, j4⟩ := ptF_of ho; have k4 := bthen k3 j4; unfold Prt.v)
      | (go_at_call 14; have hq := k2; refine (holds_any w1 M C 1 HCO.out _ _ _ _ (HU.out.later k2)).mono ?_; rintro e w8 ho; obtain ⟨p3, rfl, f3, bx3, j3⟩ := ptF_of ho; have k3 := bthen k2 j3; unfold Prt.v)
      | (go_at_call 13; have hq := k1; refine (bonds_any w1 M C 1 HCO.out _ _ _ _ (HU.out.later k1)).mono ?_; rintro e w8 ho; obtain ⟨p2, rfl, f2, bx2, j2⟩ := ptF_of ho; have k2 := bthen k1 j2; unfold Prt.v)
      | (go_at_call 12; refine (ands_any w1 M C 1 HCO.out _ _ _ _ (HU.out.later hbd)).mono ?_; rintro e w8 ho; obtain ⟨p1, rfl, f1, bx1, j1⟩ := ptF_of ho; have k1 := bthen hbd j1; unfold Prt.v))
  all_goals
    have HEND := hide (unO_of (V := 2 * C.f + 1) (cv := cv) HB1.out hGl (by omega) hn9 hcl9 hb9 hp9 hr9 (.int .i64 (ofV 0 (2 * C.f + 1))) (.slice pv rws.length cv))
    rename_i hHeld
    clear hHeld hn9 hcl9 hb9 hp9 hr9 hm9 hh9 y11 yset g0 g1 z0 z1 HMA f1 f2 f3 f4 f5 f6 bx1 bx2 bx3 bx4 bx5 bx6 k1 k2 k3 k4 k5 k6 j1 j2 j3 j4 j5 j6
    generalize ofV 0 (2 * C.f + 1) = V9 at *
    go_wp2
    refine bodyPost_ret (res30 rfl _ rfl (HR9.out.2 _ _)) rfl ?_
    exact HEND.out
end Go.Proofs.YtjhkecnnhddhbaaGreatDoor
