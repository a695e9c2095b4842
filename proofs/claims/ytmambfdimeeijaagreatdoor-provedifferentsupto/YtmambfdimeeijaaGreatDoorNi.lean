/- The toggle's trace, by values. -/
import Derived.Test.YtmambfdimeeijaaGreatDoorNhM
import Derived.Test.YtmambfdimeeijaaGreatDoorNgM
import Derived.Deep.CutRange
namespace Go.Proofs.YtmambfdimeeijaaGreatDoor.Sr
open Go.RowKit Go.Maps
set_option maxRecDepth 100000
structure Tr (w W : World) (B0 : Nat) (C : Ci) (T : Nat) (ps : Option Addr) (cs : Nat) (vT : Value) (k : Nat) : Prop where
 b : Below w.heap.size w W
 n0 : W.cell? ⟨w.heap.size, 0, none⟩ = some (.slice (some ⟨B0, 0, none⟩) 3 3)
 c0 : W.cell? ⟨w.heap.size + 1, 0, none⟩ = some (.int .i64 C.ins)
 c1 : W.cell? ⟨w.heap.size + 1, 1, none⟩ = some (.slice C.p C.ps.length C.cap)
 c2 : W.cell? ⟨w.heap.size + 1, 2, none⟩ = some (.int .i64 C.a)
 c3 : W.cell? ⟨w.heap.size + 1, 3, none⟩ = some (.int .i64 C.s)
 c4 : W.cell? ⟨w.heap.size + 1, 4, none⟩ = some (.slice C.i.at' C.i.ns.length C.i.cap)
 c5 : W.cell? ⟨w.heap.size + 1, 5, none⟩ = some (.slice C.n.at' C.n.ns.length C.n.cap)
 c6 : W.cell? ⟨w.heap.size + 1, 6, none⟩ = some (.slice C.b.at' C.b.ns.length C.b.cap)
 c7 : W.cell? ⟨w.heap.size + 1, 7, none⟩ = some (.slice C.h.at' C.h.ns.length C.h.cap)
 g : W.heap[w.heap.size + 2]? = some (.cells #[.slice none 0 0, .slice none 0 0] 79)
 t : W.heap[T]? = some (.cells #[.slice ps 1 cs, vT] 79)
 hT : w.heap.size + 3 ≤ T
 row : ∃ xs, W.ownsRow (w.heap.size + 3) 25 1 vT k xs
 hv : vT.ownBlock ≠ some T
theorem Tr.later {w W W' : World} {B0 : Nat} {C : Ci} {T : Nat} {ps : Option Addr} {cs : Nat} {vT : Value} {k : Nat} (h : Tr w W B0 C T ps cs vT k) (hb : Below W.heap.size W W') : Tr w W' B0 C T ps cs vT k :=
 ⟨bthen h.b hb, cell_later hb h.n0, cell_later hb h.c0, cell_later hb h.c1, cell_later hb h.c2, cell_later hb h.c3, cell_later hb h.c4, cell_later hb h.c5, cell_later hb h.c6, cell_later hb h.c7,
   (hb.block _ (Array.getElem?_eq_some_iff.1 h.g).1).trans h.g, (hb.block _ (Array.getElem?_eq_some_iff.1 h.t).1).trans h.t, h.hT, h.row.imp fun _ hr => owns_below hr hb, h.hv⟩
theorem g59 {w : World} {R : Nat} {x y : Value} (h : w.heap[R]? = some (.cells #[x, y] 79)) :
   (w.cell? ⟨R, 0, none⟩ = some x ∧ w.cell? ⟨R, 1, none⟩ = some y ∧ w.frozen? ⟨R, 0, none⟩ = false ∧ w.frozen? ⟨R, 1, none⟩ = false) ∧ ∀ a b, ((w.setCell ⟨R, 0, none⟩ a).setCell ⟨R, 1, none⟩ b).heap[R]? = some (.cells #[a, b] 79) := by
 refine ⟨⟨by rw [Lib.cell_of_heap h]; rfl, by rw [Lib.cell_of_heap h]; rfl, Lib.frozen_of_heap h 0, Lib.frozen_of_heap h 1⟩, fun a b => ?_⟩
 rw [heap_setCell_same _ _ _ _ _ _ (heap_setCell_same _ _ _ _ _ _ h)]
 rfl
structure Tq (w W : World) (B0 : Nat) (C : Ci) : Prop where
 b : Below w.heap.size w W
 n0 : W.cell? ⟨w.heap.size, 0, none⟩ = some (.slice (some ⟨B0, 0, none⟩) 3 3)
 c0 : W.cell? ⟨w.heap.size + 1, 0, none⟩ = some (.int .i64 C.ins)
 c1 : W.cell? ⟨w.heap.size + 1, 1, none⟩ = some (.slice C.p C.ps.length C.cap)
 c2 : W.cell? ⟨w.heap.size + 1, 2, none⟩ = some (.int .i64 C.a)
 c3 : W.cell? ⟨w.heap.size + 1, 3, none⟩ = some (.int .i64 C.s)
 c4 : W.cell? ⟨w.heap.size + 1, 4, none⟩ = some (.slice C.i.at' C.i.ns.length C.i.cap)
 c5 : W.cell? ⟨w.heap.size + 1, 5, none⟩ = some (.slice C.n.at' C.n.ns.length C.n.cap)
 c6 : W.cell? ⟨w.heap.size + 1, 6, none⟩ = some (.slice C.b.at' C.b.ns.length C.b.cap)
 c7 : W.cell? ⟨w.heap.size + 1, 7, none⟩ = some (.slice C.h.at' C.h.ns.length C.h.cap)
 g : W.heap[w.heap.size + 2]? = some (.cells #[.slice none 0 0, .slice none 0 0] 79)
 hs : w.heap.size + 3 ≤ W.heap.size
theorem Tq.later {w W W' : World} {B0 : Nat} {C : Ci} (h : Tq w W B0 C) (hb : Below W.heap.size W W') : Tq w W' B0 C :=
 ⟨bthen h.b hb, cell_later hb h.n0, cell_later hb h.c0, cell_later hb h.c1, cell_later hb h.c2, cell_later hb h.c3, cell_later hb h.c4, cell_later hb h.c5, cell_later hb h.c6, cell_later hb h.c7,
   (hb.block _ (Array.getElem?_eq_some_iff.1 h.g).1).trans h.g, Nat.le_trans h.hs hb.size⟩
theorem tr_of {w W : World} {B0 : Nat} {C : Ci} {T : Nat} {ps : Option Addr} {cs : Nat} (h : Tq w W B0 C) (ht : W.heap[T]? = some (.cells #[.slice ps 1 cs, .slice none 0 0] 79)) (hT : w.heap.size + 3 ≤ T) : Tr w W B0 C T ps cs (.slice none 0 0) 0 :=
 ⟨h.b, h.n0, h.c0, h.c1, h.c2, h.c3, h.c4, h.c5, h.c6, h.c7, h.g, ht, hT, ⟨[], World.ownsRow_nil _ _ _ _⟩, by simp [Value.ownBlock]⟩
theorem Tq.set {w W W0 : World} {B0 : Nat} {C : Ci} (h0 : Tq w W0 B0 C) (hb : Below W0.heap.size W0 W) (a b : Value) : Tq w ((W.setCell ⟨W0.heap.size, 0, none⟩ a).setCell ⟨W0.heap.size, 1, none⟩ b) B0 C :=
 h0.later ((hb.setCell (p := ⟨W0.heap.size, 0, none⟩) (Nat.le_refl _) _).setCell (p := ⟨W0.heap.size, 1, none⟩) (Nat.le_refl _) _)
theorem own_slice {w : World} {base e n : Nat} {v : Value} {xs : List Value} (h : w.ownsRow base e 1 v n xs) : ∃ p c, v = .slice p n c := by
 obtain ⟨_, h2⟩ := h
 rcases h2 with ⟨rfl, h0⟩ | ⟨g, cap, cur, rfl, _⟩
 · exact ⟨none, 0, by rw [h0]⟩
 · exact ⟨_, cap, rfl⟩
theorem own_append_b {w : World} {base n : Nat} {vp : Value} {xs : List Value} (h : w.ownsRow base 25 1 vp n xs) (hb : base ≤ w.heap.size) (hl : n < 1000000) (ty : TypeId) :
   ∃ p c w', (Builtin.append_ #[28, 28] ty #[vp, .slice (some ⟨w.heap.size, 0, none⟩) 1 1]).run Tryz.prog (w.alloc (.cells #[.slice none 0 0] 25)) = .ok (.slice p (n + 1) c) w' ∧ w'.ownsRow base 25 1 (.slice p (n + 1) c) (n + 1) (xs ++ [.slice none 0 0]) ∧ (w.alloc (.cells #[.slice none 0 0] 25)).grownBy w' vp.ownBlock := by
 obtain ⟨i0, hi, hz0, hz1, hz2⟩ := info_parts infoR
 obtain ⟨vp', w', hr, ho, hg, _⟩ := run_append_own (P := Tryz.prog) (w := w.alloc (.cells #[.slice none 0 0] 25)) base 28 ty 25 i0 (.slice none 0 0) 1 24 Tryz.underlying28 hi hz0 hz1 hz2 rfl (by decide) vp n _ (h.alloc (.cells #[.slice none 0 0] 25)) ⟨w.heap.size, 0, none⟩ 1 1 [.slice none 0 0] rfl (one_news ⟨none, [], 0⟩ w) (one_cell ⟨none, [], 0⟩) (by unfold maxLen; omega) (by omega) (by simp; omega)
 obtain ⟨p, c, rfl⟩ := own_slice ho
 exact ⟨p, c, w', hr, ho, hg⟩
theorem tr_next {w w8 w9 : World} {B0 : Nat} {C : Ci} {T : Nat} {ps : Option Addr} {cs : Nat} {vT : Value} {k cap : Nat} {p : Option Addr} {o : Obj} {xs : List Value} (h : Tr w w8 B0 C T ps cs vT k) (hr : w8.ownsRow (w.heap.size + 3) 25 1 vT k xs)
   (hg : (w8.alloc o).grownBy w9 vT.ownBlock) (ho : w9.ownsRow (w.heap.size + 3) 25 1 (.slice p (k + 1) cap) (k + 1) (xs ++ [.slice none 0 0])) :
   Tr w (w9.setCell ⟨T, 1, none⟩ (.slice p (k + 1) cap)) B0 C T ps cs (.slice p (k + 1) cap) (k + 1) := by
 have hTl : T < w8.heap.size := (Array.getElem?_eq_some_iff.1 h.t).1
 have hT := h.hT
 have ht9 : w9.heap[T]? = some (.cells #[.slice ps 1 cs, vT] 79) := by
   rw [hg.block T (by simp; omega) (fun e => h.hv e.symm)]
   exact ((bal (Below.refl _ w8) o).block T hTl).trans h.t
 have hgT : Value.ownBlock (.slice p (k + 1) cap) ≠ some T := by
   rcases ho.2 with ⟨e, h0⟩ | ⟨g, cap', cur, e, hg', hh, _⟩
   · omega
   · intro e2
     rw [e] at e2
     have e3 : g = T := by simpa [Value.ownBlock] using e2
     rw [e3, ht9] at hh
     cases hh
 have hbb : Below (w.heap.size + 3) w8 (w9.setCell ⟨T, 1, none⟩ (.slice p (k + 1) cap)) :=
   (((Below.refl _ w8).alloc (by omega) o).grown hg (by simp; omega) (fun j hj => (hr.lt j hj).1)).setCell (p := ⟨T, 1, none⟩) hT _
 have hc : ∀ {q : Addr} {x : Value}, w8.cell? q = some x → q.block < w.heap.size + 3 → (w9.setCell ⟨T, 1, none⟩ (.slice p (k + 1) cap)).cell? q = some x := fun hq hl => cell_blk hq (hbb.block _ hl)
 refine ⟨h.b.trans (hbb.mono (by omega)), hc h.n0 (by simp), hc h.c0 (by simp), hc h.c1 (by simp), hc h.c2 (by simp), hc h.c3 (by simp), hc h.c4 (by simp), hc h.c5 (by simp), hc h.c6 (by simp), hc h.c7 (by simp), ?_, ?_, hT, ⟨_, owns_set ho hgT⟩, hgT⟩
 · exact (hbb.block _ (by omega)).trans h.g
 · rw [heap_setCell_same _ _ 1 _ _ _ ht9]
   rfl
theorem tr_s {w W : World} {B0 : Nat} {C : Ci} {T : Nat} {ps : Option Addr} {cs : Nat} {vT : Value} {k : Nat} (h : Tr w W B0 C T ps cs vT k) : W.cell? ⟨w.heap.size, 0, none⟩ = some (.slice (some ⟨B0, 0, none⟩) 3 3) ∧ W.cell? ⟨w.heap.size + 1, 0, none⟩ = some (.int .i64 C.ins) ∧ W.cell? ⟨w.heap.size + 1, 1, none⟩ = some (.slice C.p C.ps.length C.cap) ∧ W.cell? ⟨w.heap.size + 1, 2, none⟩ = some (.int .i64 C.a) ∧ W.cell? ⟨w.heap.size + 1, 3, none⟩ = some (.int .i64 C.s) ∧ W.cell? ⟨w.heap.size + 1, 4, none⟩ = some (.slice C.i.at' C.i.ns.length C.i.cap) ∧ W.cell? ⟨w.heap.size + 1, 5, none⟩ = some (.slice C.n.at' C.n.ns.length C.n.cap) ∧ W.cell? ⟨w.heap.size + 1, 6, none⟩ = some (.slice C.b.at' C.b.ns.length C.b.cap) ∧ W.cell? ⟨w.heap.size + 1, 7, none⟩ = some (.slice C.h.at' C.h.ns.length C.h.cap) := ⟨h.n0, h.c0, h.c1, h.c2, h.c3, h.c4, h.c5, h.c6, h.c7⟩
theorem tr_s9 {w w8 w9 : World} {B0 : Nat} {C : Ci} {T : Nat} {ps : Option Addr} {cs : Nat} {vT : Value} {k : Nat} {o : Obj} {xs : List Value} (h : Tr w w8 B0 C T ps cs vT k) (hr : w8.ownsRow (w.heap.size + 3) 25 1 vT k xs) (hg : (w8.alloc o).grownBy w9 vT.ownBlock) :
   w9.cell? ⟨w.heap.size, 0, none⟩ = some (.slice (some ⟨B0, 0, none⟩) 3 3) ∧ w9.cell? ⟨w.heap.size + 1, 0, none⟩ = some (.int .i64 C.ins) ∧ w9.cell? ⟨w.heap.size + 1, 1, none⟩ = some (.slice C.p C.ps.length C.cap) ∧ w9.cell? ⟨w.heap.size + 1, 2, none⟩ = some (.int .i64 C.a) ∧ w9.cell? ⟨w.heap.size + 1, 3, none⟩ = some (.int .i64 C.s) ∧ w9.cell? ⟨w.heap.size + 1, 4, none⟩ = some (.slice C.i.at' C.i.ns.length C.i.cap) ∧ w9.cell? ⟨w.heap.size + 1, 5, none⟩ = some (.slice C.n.at' C.n.ns.length C.n.cap) ∧ w9.cell? ⟨w.heap.size + 1, 6, none⟩ = some (.slice C.b.at' C.b.ns.length C.b.cap) ∧ w9.cell? ⟨w.heap.size + 1, 7, none⟩ = some (.slice C.h.at' C.h.ns.length C.h.cap) := by
 have hTl : T < w8.heap.size := (Array.getElem?_eq_some_iff.1 h.t).1
 have hT := h.hT
 have hbb : Below (w.heap.size + 3) w8 w9 := ((Below.refl _ w8).alloc (by omega) o).grown hg (by simp; omega) (fun j hj => (hr.lt j hj).1)
 have hc : ∀ {q : Addr} {x : Value}, w8.cell? q = some x → q.block < w.heap.size + 3 → w9.cell? q = some x := fun hq hl => cell_blk hq (hbb.block _ hl)
 exact ⟨hc h.n0 (by simp), hc h.c0 (by simp), hc h.c1 (by simp), hc h.c2 (by simp), hc h.c3 (by simp), hc h.c4 (by simp), hc h.c5 (by simp), hc h.c6 (by simp), hc h.c7 (by simp)⟩
def loadT : Op := .load 28 (.tmp 24)
theorem loadT_fold : Op.load 28 (.tmp 24) = loadT := rfl
theorem loadT_is : loadT = Op.load 28 (.tmp 24) := rfl
attribute [local go_sem] loadT_is
section
set_option maxHeartbeats 8000000 in
theorem traceOf_tg {z : Int} (B0 B1 B2 B3 : Nat) (C : Ci) (hi : C.ins = 1) (ha : C.a = 0) (hps : C.ps.length = 0) (q : Option Addr) (w : World) (hT : Ev.TgAt w B0 B1 B2 B3 z) (hq : BoolsAt w q [false, true]) :
   Calls Tryz.prog 71 #[Ev.Mv.val (Ev.tgM B0 B1 B2 B3) 3, C.v, .int .i64 1, .slice q 2 2] w fun e w' => (∃ p0 c0 p1 c1, e = .returned (.agg #[.slice p0 1 c0, .slice p1 2 c1])) ∧ Below w.heap.size w w' := by
 have hb3 : Below w.heap.size w (((w.alloc (.cells (Ev.Mv.cells (Ev.tgM B0 B1 B2 B3) 3) 51)).alloc (.cells #[.int .i64 C.ins, .slice C.p C.ps.length C.cap, .int .i64 C.a, .int .i64 C.s, C.i.v, C.n.v, C.b.v, C.h.v] 27)).alloc (.cells #[.slice none 0 0, .slice none 0 0] 79)) := bal (bal (bal (Below.refl _ _) _) _) _
 have HA := hide ha
 have HI := hide hi
 have HPS := hide hps
 obtain ⟨qb, qo, rfl, hqc⟩ := hq (by simp)
 have HQ := hide hq
 have HTG := hide hT
 have HTQ : Hid (Tq w (((w.alloc (.cells (Ev.Mv.cells (Ev.tgM B0 B1 B2 B3) 3) 51)).alloc (.cells #[.int .i64 C.ins, .slice C.p C.ps.length C.cap, .int .i64 C.a, .int .i64 C.s, C.i.v, C.n.v, C.b.v, C.h.v] 27)).alloc (.cells #[.slice none 0 0, .slice none 0 0] 79)) B0 C) :=
   ⟨hb3, by simp [go_sem, Ev.Mv.cells], by simp [go_sem], by simp [go_sem], by simp [go_sem], by simp [go_sem], by simp [go_sem], by simp [go_sem], by simp [go_sem], by simp [go_sem], alloc_at (by simp), by simp⟩
 have HB3 := hide hb3
 clear ha hi hps hb3 hq hqc hT
 simp only [Sl.v] at *
 go_enter Tryz.func71, Tryz.ntmps71
 go_wp2_with fail
 generalize ((w.alloc (.cells (Ev.Mv.cells (Ev.tgM B0 B1 B2 B3) 3) 51)).alloc (.cells #[.int .i64 C.ins, .slice C.p C.ps.length C.cap, .int .i64 C.a, .int .i64 C.s, C.i.v, C.n.v, C.b.v, C.h.v] 27)).alloc (.cells #[.slice none 0 0, .slice none 0 0] 79) = w3 at *
 have y0 := HTQ.out.n0
 have y2 := HTQ.out.c2
 rw [HA.out] at y2
 have hs3 := HTQ.out.hs
 have hbd : Below w3.heap.size w3 w3.drew := (Below.refl _ w3).drew
 have hbA : Below w3.heap.size w3 (w3.alloc (.cells #[.slice none 0 0, .slice none 0 0] 79)).drew := (bal (Below.refl _ w3) _).drew
 have HW3 := hide (fun W (hb : Below w3.heap.size w3 W) => Ev.words3_tg B0 (some ⟨qb, qo, none⟩) 2 2 (by decide) (by decide) (by decide) W ((HTG.out.n.later HB3.out).later hb) [true] ((HQ.out.later HB3.out).later hb))
 go_upto_region 1 with fail
 go_cut [9] from 11 to 18 (fun s wx => ∃ T ps cs, s = .pointer (some ⟨T, 0, none⟩) ∧ Hid (Tr w wx B0 C T ps cs (.slice none 0 0) 0))
 case first =>
   go_region_held3 (fun w' => w'.cell? ⟨w.heap.size, 0, none⟩ = some (.slice (some ⟨B0, 0, none⟩) 3 3) ∧ w'.cell? ⟨w.heap.size + 1, 2, none⟩ = some (.int .i64 0))
     (first | exact ⟨cell_later hb5 y0, cell_later hb5 y2⟩ | exact ⟨cell_later hbd y0, cell_later hbd y2⟩ | exact ⟨cell_later hbA y0, cell_later hbA y2⟩ | exact ⟨cell_later (bal hb5 _) y0, cell_later (bal hb5 _) y2⟩ | exact ⟨cell_set_far (cell_set_far (cell_later hb5 y0) (by simp; omega)) (by simp; omega), cell_set_far (cell_set_far (cell_later hb5 y2) (by simp; omega)) (by simp; omega)⟩ | go_keep)
     ((go_at_call 102
       first
         | (refine (HW3.out _ hbA).mono ?_
            rintro e w5 ⟨⟨ps, cs, rfl⟩, hb5'⟩
            have hb5 : Below w3.heap.size w3 w5 := bthen hbA hb5'
            have hg5 := (hb5'.block w3.heap.size (by simp)).trans (alloc_at (w := w3) (o := .cells #[.slice none 0 0, .slice none 0 0] 79) rfl)
            have HR := hide (g59 hg5)
            obtain ⟨q0, q1, f0, f1⟩ := HR.out.1)
         | (refine (HW3.out _ hbd).mono ?_
            rintro e w5 ⟨⟨ps, cs, rfl⟩, hb5'⟩
            have hb5 : Below w3.heap.size w3 w5 := bthen hbd hb5')))
   all_goals go_wp2_with fail
   all_goals go_meet
   all_goals (first
     | (have hg5' := hg5
        exact ⟨_, _, _, rfl, tr_of (HTQ.out.set hb5 _ _) ((g59 hg5').2 _ _) hs3⟩)
     | exact ⟨_, _, _, rfl, tr_of (HTQ.out.later (bal hb5 _)) (alloc_at rfl) (Nat.le_trans hs3 hb5.size)⟩)
 case rest =>
   obtain ⟨T, ps, cs, rfl, HF⟩ := hcut
   clear HW3 hbd hbA y0 y2 HTQ hs3
   have HST : Hid (∀ W, Calls Tryz.prog 43 #[.agg #[.int .i64 C.ins, .slice C.p C.ps.length C.cap, .int .i64 C.a, .int .i64 C.s, .slice C.i.at' C.i.ns.length C.i.cap, .slice C.n.at' C.n.ns.length C.n.cap, .slice C.b.at' C.b.ns.length C.b.cap, .slice C.h.at' C.h.ns.length C.h.cap]] W fun e w' => e = .returned (.int .i64 1) ∧ Below W.heap.size W w') := fun W =>
     (stride_any C.ins C.p C.ps.length C.cap (by rw [HI.out]; decide) (by rw [HI.out]; decide) (by rw [HPS.out]; decide) _ _ _ _ _ _ W).mono fun e w' ⟨h1, h2⟩ => ⟨by rw [h1, HI.out, HPS.out]; rfl, h2⟩
   have HW2 := hide (fun W (hb : Below w.heap.size w W) q n c => Ev.words2_tg B0 q n c W (HTG.out.n.later hb))
   obtain ⟨i0, hi, hz0, hz1, hz2⟩ := info_parts infoR
   have HINF := hide (And.intro hi (And.intro hz0 (And.intro hz1 hz2)))
   clear hi hz0 hz1 hz2
   go_wp2
   go_loopw [21] (fun i wr => ∃ k : Nat, k ≤ 2 ∧ i = .int .i64 k ∧ ∃ vT, Hid (Tr w wr B0 C T ps cs vT k)) (fun i _ => 2 - (intOf i).toNat)
   case atStart => exact ⟨0, by decide, rfl, _, HF⟩
   case round =>
     obtain ⟨k, hk, rfl, vT, HR⟩ := hrel
     obtain ⟨xs, hrow⟩ := HR.out.row
     obtain ⟨pT, cT, rfl⟩ := own_slice hrow
     by_cases hk2 : k < 2
     · have HROW := hide hrow
       obtain ⟨-, t1, -, tf1⟩ := (g59 HR.out.t).1
       obtain ⟨_, n0, c0, c1, c2, c3, c4, c5, c6, c7, _, _, _, _, _⟩ := HR.out
       have hbd : Below wr.heap.size wr wr.drew := (Below.refl _ wr).drew
       clear hrow
       have wz0 := wrap_id (x := 0) (by decide) (by decide)
       have wz1 := wrap_id (x := 1) (by decide) (by decide)
       have hkk : k = 0 ∨ k = 1 := by omega
       have hT3 := HR.out.hT
       rcases hkk with rfl | rfl
       all_goals
         go_wp2
         simp only [loadT_fold]
         go_region_held3 (fun w' => w'.cell? ⟨w.heap.size, 0, none⟩ = some (.slice (some ⟨B0, 0, none⟩) 3 3) ∧ w'.cell? ⟨w.heap.size + 1, 0, none⟩ = some (.int .i64 C.ins) ∧ w'.cell? ⟨w.heap.size + 1, 1, none⟩ = some (.slice C.p C.ps.length C.cap) ∧ w'.cell? ⟨w.heap.size + 1, 2, none⟩ = some (.int .i64 C.a) ∧ w'.cell? ⟨w.heap.size + 1, 3, none⟩ = some (.int .i64 C.s) ∧ w'.cell? ⟨w.heap.size + 1, 4, none⟩ = some (.slice C.i.at' C.i.ns.length C.i.cap) ∧ w'.cell? ⟨w.heap.size + 1, 5, none⟩ = some (.slice C.n.at' C.n.ns.length C.n.cap) ∧ w'.cell? ⟨w.heap.size + 1, 6, none⟩ = some (.slice C.b.at' C.b.ns.length C.b.cap) ∧ w'.cell? ⟨w.heap.size + 1, 7, none⟩ = some (.slice C.h.at' C.h.ns.length C.h.cap))
           (first | exact tr_s HT9.out | exact tr_s9 HRB.out HRW.out hg9 | exact tr_s HRB.out | exact tr_s (HRB.out.later (bal (Below.refl _ _) _)) | exact tr_s HRA.out | exact tr_s (HR.out.later hbd) | go_keep)
           (first
             | (go_at_call 102; have hq := HRA; refine (HW2.out _ HRA.out.b _ _ _).mono ?_; rintro e wB ⟨rfl, hbB'⟩; have HRB := hide (HRA.out.later hbB'); have hbB := bthen hbA hbB'; have bt1 := cell_later hbB t1; have bt1a := past1 bt1 (.cells #[.slice none 0 0] 25); have btf := (hbB.frozen (World.block_lt_of_cell? _ _ t1)).trans tf1; have HRW := hide (owns_below HROW.out hbB)
                obtain ⟨p9, c9, w9, hrun9, ho9, hg9⟩ := own_append_b HRW.out (by have := (Array.getElem?_eq_some_iff.1 HRB.out.t).1; omega) (by decide) 28
                have g1 := hg9.cell (a := ⟨T, 1, none⟩) bt1a (fun e => HRB.out.hv e.symm)
                have gf := (grown_frozen hg9 bt1a (fun e => HRB.out.hv e.symm)).trans (((bal (Below.refl _ _) _).frozen (World.block_lt_of_cell? _ _ bt1)).trans btf)
                have HT9 := hide (tr_next HRB.out HRW.out hg9 ho9))
             | (go_at_call 43; refine (HST.out _).mono ?_; rintro e wA ⟨rfl, hbA'⟩; have hbA : Below wr.heap.size wr wA := bthen hbd hbA'; have HRA := hide (HR.out.later hbA); have at1 := cell_later hbA t1)
             | (refine Go.Proofs.YtmambfdimeeijaaGreatDoor.step_appR rfl _ _ _ _ rfl _ _ rfl rfl _ _ hrun9 ?_))
       all_goals
         rename_i hHeld
         clear hHeld hrun9 ho9 hg9 g1 gf bt1 bt1a btf HRW HRB hbB hbB' HRA hbA hbA' at1 HROW t1 tf1 n0 c0 c1 c2 c3 c4 c5 c6 c7
         go_wp2
         go_roundw
         case rel => first | exact ⟨1, by decide, by go_num, _, HT9⟩ | exact ⟨2, by decide, by go_num, _, HT9⟩
         case measure => simp [intOf]
     · obtain rfl : k = 2 := by omega
       obtain ⟨t0, t1, -, -⟩ := (g59 HR.out.t).1
       have HG := hide (g59 HR.out.g)
       obtain ⟨r0, r1, rf0, rf1⟩ := HG.out.1
       have HB := hide (((HR.out.b.setCell (p := ⟨w.heap.size + 2, 0, none⟩) (show w.heap.size ≤ w.heap.size + 2 by omega) (.slice ps 1 cs)).setCell (p := ⟨w.heap.size + 2, 1, none⟩) (show w.heap.size ≤ w.heap.size + 2 by omega) (.slice pT 2 cT)))
       clear hrow HR HST HW2
       go_wp2
       refine bodyPost_ret (results_cell_row rfl _ _ (w.heap.size + 2) 79 _ _ _ rfl (HG.out.2 _ _) Tryz.underlying79 rfl (by kernel_rfl)) rfl ?_
       exact ⟨⟨_, _, _, _, rfl⟩, HB.out⟩
end
end Go.Proofs.YtmambfdimeeijaaGreatDoor.Sr
