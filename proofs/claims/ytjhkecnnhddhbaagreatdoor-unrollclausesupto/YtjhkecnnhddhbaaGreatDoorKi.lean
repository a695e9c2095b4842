/- Steps, unrolled: the parts. -/
import Derived.Test.YtjhkecnnhddhbaaGreatDoorKf
import Derived.Test.YtjhkecnnhddhbaaGreatDoorKg
import Derived.Test.YtjhkecnnhddhbaaGreatDoorKh
namespace Go.Proofs.YtjhkecnnhddhbaaGreatDoor
open Go.RowKit Go.Maps Go.WideMaps
set_option maxRecDepth 100000
set_option autoImplicit false

/-- What a part's function leaves. -/
def PtOut (w0 w : World) (M : Nat) (v : Value) (C : Ci) (last : Nat) (vs cs : Int) (L : List (List Int)) (nd : Option Int) (e : Ending) (w' : World) : Prop :=
  ∃ p : Prt, e = .returned p.v ∧ p.vs = vs ∧ p.cs = cs ∧ p.L = L ∧ p.need = nd ∧ Below w.heap.size w w' ∧ Bxs w' v M p.bx ∧ (((last : Int) + 1) * C.f ≤ 200000 → Makes w0 M C last p) ∧ (∀ (args : Array Value) (w : World), (callFunc p.fn args).run Tryz.prog w = .ok (.enter p.fn args) w)
theorem enter65 (args : Array Value) (w : World) : (callFunc 65 args).run Tryz.prog w = .ok (.enter 65 args) w := by kernel_rfl
theorem enter35 (args : Array Value) (w : World) : (callFunc 35 args).run Tryz.prog w = .ok (.enter 35 args) w := by kernel_rfl
theorem enter40 (args : Array Value) (w : World) : (callFunc 40 args).run Tryz.prog w = .ok (.enter 40 args) w := by kernel_rfl
theorem enter43 (args : Array Value) (w : World) : (callFunc 43 args).run Tryz.prog w = .ok (.enter 43 args) w := by kernel_rfl
theorem enter46 (args : Array Value) (w : World) : (callFunc 46 args).run Tryz.prog w = .ok (.enter 46 args) w := by kernel_rfl
theorem enter47 (args : Array Value) (w : World) : (callFunc 47 args).run Tryz.prog w = .ok (.enter 47 args) w := by kernel_rfl
theorem enter51 (args : Array Value) (w : World) : (callFunc 51 args).run Tryz.prog w = .ok (.enter 51 args) w := by kernel_rfl
/-- A new block is not the maker's. -/
theorem Un.new {w0 w : World} {M : Nat} {v : Value} {vars : Int} {rs : List Row} {C : Ci} {last : Nat} (h : Un w0 w M v vars rs C last) {g : Nat} (hg : w.heap.size ≤ g) : g ≠ M ∧ v.ownBlock ≠ some g := by
  have hM := World.block_lt_of_cell? _ _ h.cm.c0
  simp only at hM
  exact ⟨by omega, fun e => by have := (h.cm.row.lt _ e).2; omega⟩
theorem bonds_makes (w0 : World) (M : Nat) (C : Ci) (last : Nat) (hC : COk w0 C last) (U G S A : Nat) (cs : Int) :
    Makes w0 M C last ⟨0, cs, 65, #[.pointer (some ⟨S, 0, none⟩), .pointer (some ⟨A, 0, none⟩)], (⟨S, 0, none⟩, .int .i64 last) :: (⟨A, 0, none⟩, .func (.func 40) #[] #[.pointer (some ⟨G, 0, none⟩), .pointer (some ⟨U, 0, none⟩)]) :: [(⟨U, 0, none⟩, .pointer (some ⟨M, 0, none⟩)), (⟨G, 0, none⟩, C.n.v)], stepsL (bondsT C) last, none⟩ :=
  eachMake_any w0 M C last 40 _ _ _ (bondsT C) 0 (by decide) S A last (by have := hC.la; omega) 0 cs (by simp) enter40 (fun t ht w v vars rs h1 h2 h3 _ _ => bondsStep_any w0 M C last hC U G t ht w v vars rs h1 h2 h3)
theorem holds_makes (w0 : World) (M : Nat) (C : Ci) (last : Nat) (hC : COk w0 C last) (U G S A : Nat) (cs : Int) :
    Makes w0 M C last ⟨0, cs, 65, #[.pointer (some ⟨S, 0, none⟩), .pointer (some ⟨A, 0, none⟩)], (⟨S, 0, none⟩, .int .i64 (last + 1 : Nat)) :: (⟨A, 0, none⟩, .func (.func 43) #[] #[.pointer (some ⟨G, 0, none⟩), .pointer (some ⟨U, 0, none⟩)]) :: [(⟨U, 0, none⟩, .pointer (some ⟨M, 0, none⟩)), (⟨G, 0, none⟩, C.h.v)], stepsL (holdsT C) (last + 1), none⟩ :=
  eachMake_any w0 M C last 43 _ _ _ (holdsT C) 0 (by decide) S A (last + 1) (by have := hC.la; omega) 0 cs (by simp) enter43 (fun t ht w v vars rs h1 h2 h3 _ _ => holdsStep_any w0 M C last hC U G t (by omega) w v vars rs h1 h2 h3)
theorem ands_makes (w0 : World) (M : Nat) (C : Ci) (last : Nat) (hC : COk w0 C last) (U G S A : Nat) (cs : Int) :
    Makes w0 M C last ⟨((last + 1 : Nat) : Int) * C.f, cs, 65, #[.pointer (some ⟨S, 0, none⟩), .pointer (some ⟨A, 0, none⟩)], (⟨S, 0, none⟩, .int .i64 (last + 1 : Nat)) :: (⟨A, 0, none⟩, .func (.func 35) #[] #[.pointer (some ⟨U, 0, none⟩), .pointer (some ⟨G, 0, none⟩)]) :: [(⟨U, 0, none⟩, .pointer (some ⟨M, 0, none⟩)), (⟨G, 0, none⟩, .int .i64 C.ins), (⟨G, 1, none⟩, .slice C.p C.ps.length C.cap)], stepsL (fun t => andsT C t C.ps.length) (last + 1), none⟩ :=
  eachMake_any w0 M C last 35 _ _ _ (fun t => andsT C t C.ps.length) C.f hC.f0.1 S A (last + 1) (by have := hC.la; omega) _ cs rfl enter35 (fun t ht w v vars rs h1 h2 h3 h4 h5 => andsStep_any w0 M C last hC U G t (by omega) w v vars rs h1 h2 h3 h4 h5)

/-- Three cells are written. -/
def set3 (w : World) (R : Nat) (a b c : Value) : World := ((w.setCell ⟨R, 0, none⟩ a).setCell ⟨R, 1, none⟩ b).setCell ⟨R, 2, none⟩ c
theorem set3_below {w0 w : World} {base R : Nat} (h : Below base w0 w) (hR : base ≤ R) (a b c : Value) : Below base w0 (set3 w R a b c) := ((h.setCell (p := ⟨R, 0, none⟩) hR _).setCell (p := ⟨R, 1, none⟩) hR _).setCell (p := ⟨R, 2, none⟩) hR _
theorem set3_bxs {w : World} {v : Value} {M R : Nat} {L : List (Addr × Value)} (h : Bxs w v M L) (hR : ∀ q x, (q, x) ∈ L → q.block ≠ R) (a b c : Value) : Bxs (set3 w R a b c) v M L := fun q x hq =>
  ⟨cell_set_far (cell_set_far (cell_set_far (h q x hq).1 (hR q x hq)) (hR q x hq)) (hR q x hq), (h q x hq).2⟩
theorem r45 {w : World} {R : Nat} {x y z : Value} (h : w.heap[R]? = some (.cells #[x, y, z] 45)) :
    (w.cell? ⟨R, 0, none⟩ = some x ∧ w.cell? ⟨R, 1, none⟩ = some y ∧ w.cell? ⟨R, 2, none⟩ = some z ∧ w.frozen? ⟨R, 0, none⟩ = false ∧ w.frozen? ⟨R, 1, none⟩ = false ∧ w.frozen? ⟨R, 2, none⟩ = false) ∧ ∀ a b c, (((w.setCell ⟨R, 0, none⟩ a).setCell ⟨R, 1, none⟩ b).setCell ⟨R, 2, none⟩ c).heap[R]? = some (.cells #[a, b, c] 45) := by
  refine ⟨⟨by rw [Lib.cell_of_heap h]; rfl, by rw [Lib.cell_of_heap h]; rfl, by rw [Lib.cell_of_heap h]; rfl, Lib.frozen_of_heap h 0, Lib.frozen_of_heap h 1, Lib.frozen_of_heap h 2⟩, fun a b c => ?_⟩
  rw [heap_setCell_same _ _ _ _ _ _ (heap_setCell_same _ _ _ _ _ _ (heap_setCell_same _ _ _ _ _ _ h))]
  rfl
/-- How a part's function begins: it boxes the maker, its result, and a list. -/
structure Beg (w : World) (M : Nat) (x : Value) (ty : TypeId) : Prop where
  b2 : Below w.heap.size w ((w.alloc (.cells #[.pointer (some ⟨M, 0, none⟩)] 40)).alloc (.cells #[.int .i64 0, .int .i64 0, .nilFunc] 45))
  b3 : Below w.heap.size w (((w.alloc (.cells #[.pointer (some ⟨M, 0, none⟩)] 40)).alloc (.cells #[.int .i64 0, .int .i64 0, .nilFunc] 45)).alloc (.cells #[x] ty))
  c0 : (((w.alloc (.cells #[.pointer (some ⟨M, 0, none⟩)] 40)).alloc (.cells #[.int .i64 0, .int .i64 0, .nilFunc] 45)).alloc (.cells #[x] ty)).cell? ⟨w.heap.size, 0, none⟩ = some (.pointer (some ⟨M, 0, none⟩))
  g1 : (((w.alloc (.cells #[.pointer (some ⟨M, 0, none⟩)] 40)).alloc (.cells #[.int .i64 0, .int .i64 0, .nilFunc] 45)).alloc (.cells #[x] ty)).heap[w.heap.size + 1]? = some (.cells #[.int .i64 0, .int .i64 0, .nilFunc] 45)
  c2 : (((w.alloc (.cells #[.pointer (some ⟨M, 0, none⟩)] 40)).alloc (.cells #[.int .i64 0, .int .i64 0, .nilFunc] 45)).alloc (.cells #[x] ty)).cell? ⟨w.heap.size + 1 + 1, 0, none⟩ = some x
  s3 : (((w.alloc (.cells #[.pointer (some ⟨M, 0, none⟩)] 40)).alloc (.cells #[.int .i64 0, .int .i64 0, .nilFunc] 45)).alloc (.cells #[x] ty)).heap.size = w.heap.size + 3
theorem beg (w : World) (M : Nat) (x : Value) (ty : TypeId) : Beg w M x ty :=
  ⟨bal (bal (Below.refl _ _) _) _, bal (bal (bal (Below.refl _ _) _) _) _, by simp [go_sem], ((bal (Below.refl _ ((w.alloc (.cells #[.pointer (some ⟨M, 0, none⟩)] 40)).alloc (.cells #[.int .i64 0, .int .i64 0, .nilFunc] 45))) (.cells #[x] ty)).block (w.heap.size + 1) (by simp)).trans (alloc_at (by simp)), by simp [go_sem], by simp⟩

set_option maxHeartbeats 8000000 in
theorem bonds_any (w0 : World) (M : Nat) (C : Ci) (last : Nat) (hC : CO w0 C last) (w : World) (v : Value) (vars : Int) (rs : List Row) (hU : Un w0 w M v vars rs C last) :
    Calls Tryz.prog 13 #[.pointer (some ⟨M, 0, none⟩)] w (PtOut w0 w M v C last 0 (last * (cntB 0 C.n.ns C.n.ns.length + cntB 1 C.n.ns C.n.ns.length) : Nat) (stepsL (bondsT C) last) none) := by
  have hnl := hC.nl
  have hla := hC.la
  have hsm := hC.sm
  have hi1 := hC.i1
  have ha0 := hC.a0
  have HNW := hide (fun g (hg : w.heap.size ≤ g) => hU.new hg)
  have HMK := hide (fun U G S A cs (hv : ((last : Int) + 1) * C.f ≤ 200000) => bonds_makes w0 M C last ⟨hC, hv⟩ U G S A cs)
  have u7 := hU.un.u7
  have u10 := hU.un.u10
  have HI := hide (hC.at'.n.later hU.bl)
  have HB := hide (beg w M C.n.v 25)
  have x7 := cell_later HB.out.b2 u7
  have y10 := cell_later HB.out.b3 u10
  have y0 := HB.out.c0
  have y2 := HB.out.c2
  have HG := hide HB.out.g1
  have HB3 := hide HB.out.b3
  have hs3 := HB.out.s3
  have HI3 := hide (HI.out.later HB.out.b3)
  clear hC hU HB
  simp only [Sl.v] at *
  go_enter Tryz.func13, Tryz.ntmps13
  go_wp2
  generalize ((w.alloc (.cells #[.pointer (some ⟨M, 0, none⟩)] 40)).alloc (.cells #[.int .i64 0, .int .i64 0, .nilFunc] 45)).alloc (.cells #[.slice C.n.at' C.n.ns.length C.n.cap] 25) = w3 at *
  clear x7 u7 u10
  have hc0 := cntB_le 0 C.n.ns C.n.ns.length
  have hc1 := cntB_le 1 C.n.ns C.n.ns.length
  have HBS := hide (fun z (w' : World) (hb : IntsAt w' C.n.at' C.n.ns) => besides_any z C.n.ns C.n.at' C.n.cap (by omega) w' hb)
  go_quiet ((go_at_call 39; refine Calls.quiet_of_same (HBS.out _ _ HI3.out)))
  generalize cntB 0 C.n.ns C.n.ns.length = n0 at *
  generalize cntB 1 C.n.ns C.n.ns.length = n1 at *
  rw [show (n0 : Int) + (n1 : Int) = ((n0 + n1 : Nat) : Int) by omega]
  have hbq : Below w3.heap.size w3 (w3.drewN nq) := bdn (Below.refl _ _) nq
  have z0 := cell_later hbq y0
  have z2 := cell_later hbq y2
  have z10 := cell_later hbq y10
  have HG4 := hide ((hbq.block (w.heap.size + 1) (by omega)).trans HG.out)
  have HB4 := hide (bthen HB3.out hbq)
  have hs4 : (w3.drewN nq).heap.size = w.heap.size + 3 := hs3
  have HES := hide (eachStep_any last (by omega) (n0 + n1) (by omega) 40 (.pointer (some ⟨w.heap.size + 1 + 1, 0, none⟩)) (.pointer (some ⟨w.heap.size, 0, none⟩)) (w3.drewN nq))
  rw [hs4] at HES
  generalize last * (n0 + n1) = Z at *
  clear HG HB3 hs3 hbq y0 y2 y10 HI3 HBS
  generalize w3.drewN nq = w4 at *
  go_wp2_with fail
  refine HES.out.mono ?_
  rintro e w5 ⟨rfl, e1, e2, hb5⟩
  have hb5' : Below w4.heap.size w4 w5 := by rw [hs4]; exact hb5
  have HR := hide (r45 ((hb5'.block (w.heap.size + 1) (by omega)).trans HG4.out))
  obtain ⟨q0, q1, q2, f0, f1, f2⟩ := HR.out.1
  have HBX : Hid (Bxs w5 v M [(⟨w.heap.size + 3, 0, none⟩, .int .i64 last), (⟨w.heap.size + 3 + 1, 0, none⟩, .func (.func 40) #[] #[.pointer (some ⟨w.heap.size + 1 + 1, 0, none⟩), .pointer (some ⟨w.heap.size, 0, none⟩)]), (⟨w.heap.size, 0, none⟩, .pointer (some ⟨M, 0, none⟩)), (⟨w.heap.size + 1 + 1, 0, none⟩, .slice C.n.at' C.n.ns.length C.n.cap)]) := fun q x hq => by
    simp only [List.mem_cons, List.mem_nil_iff, or_false, Prod.mk.injEq] at hq
    rcases hq with ⟨rfl, rfl⟩ | ⟨rfl, rfl⟩ | ⟨rfl, rfl⟩ | ⟨rfl, rfl⟩
    · exact ⟨e1, HNW.out _ (by simp)⟩
    · exact ⟨e2, HNW.out _ (by simp; omega)⟩
    · exact ⟨cell_later hb5' z0, HNW.out _ (Nat.le_refl _)⟩
    · exact ⟨cell_later hb5' z2, HNW.out _ (by simp; omega)⟩
  have HB5 := hide (bthen HB4.out hb5')
  have HEND : Hid (PtOut w0 w M v C last 0 Z (stepsL (bondsT C) last) none (.returned (.agg #[.int .i64 0, .int .i64 Z, .func (.func 65) #[] #[.pointer (some ⟨w.heap.size + 3, 0, none⟩), .pointer (some ⟨w.heap.size + 3 + 1, 0, none⟩)]])) (set3 w5 (w.heap.size + 1) (.int .i64 0) (.int .i64 Z) (.func (.func 65) #[] #[.pointer (some ⟨w.heap.size + 3, 0, none⟩), .pointer (some ⟨w.heap.size + 3 + 1, 0, none⟩)]))) :=
    ⟨_, rfl, rfl, rfl, rfl, rfl, set3_below HB5.out (by omega) _ _ _, set3_bxs HBX.out (fun q x hq => by
      simp only [List.mem_cons, List.mem_nil_iff, or_false, Prod.mk.injEq] at hq
      rcases hq with ⟨rfl, rfl⟩ | ⟨rfl, rfl⟩ | ⟨rfl, rfl⟩ | ⟨rfl, rfl⟩ <;> simp <;> omega) _ _ _, HMK.out w.heap.size (w.heap.size + 1 + 1) _ _ Z, enter65⟩
  clear hb5 hb5' e1 e2 z0 z2 z10 HG4 HB4 HES HBX HB5 HMK HNW
  go_wp2
  refine bodyPost_ret (results_cell_row rfl _ _ (w.heap.size + 1) 45 _ _ _ rfl (HR.out.2 _ _ _) Tryz.underlying45 rfl (by kernel_rfl)) rfl ?_
  exact HEND.out
end Go.Proofs.YtjhkecnnhddhbaaGreatDoor
