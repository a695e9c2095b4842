/- Steps that differ, of a circuit of one bit: the part's function. -/
import Derived.Test.YtjhkecnnhddhbaaGreatDoorKu
import Derived.Test.YtjhkecnnhddhbaaGreatDoorKs
namespace Go.Proofs.YtjhkecnnhddhbaaGreatDoor
open Go.RowKit Go.Maps Go.WideMaps
set_option maxRecDepth 100000
set_option autoImplicit false

set_option maxHeartbeats 8000000 in
theorem different_one (w0 : World) (M : Nat) (C : Ci) (hC : CO w0 C 1) (hs : C.s = 1) (V0 : Int) (w : World) (v : Value) (vars : Int) (rs : List Row) (hU : Un w0 w M v vars rs C 1) :
    Calls Tryz.prog 128 #[.agg #[.pointer (some ⟨M, 0, none⟩)]] w (PtOut w0 w M v C 1 1 3 (differT C 0 1 V0) (some V0)) := by
  have HNW := hide (fun g (hg : w.heap.size ≤ g) => hU.new hg)
  have hMl := World.block_lt_of_cell? _ _ hU.cm.c0
  simp only at hMl
  have HMK := hide (fun U cs (hv : (((1 : Nat) : Int) + 1) * C.f ≤ 200000) => different_makes w0 M C ⟨hC, hv⟩ hs U cs V0)
  have hb2 : Below w.heap.size w ((w.alloc (.cells #[.pointer (some ⟨M, 0, none⟩)] 158)).alloc (.cells #[.int .i64 0, .int .i64 0, .nilFunc] 45)) := bal (bal (Below.refl _ _) _) _
  have x5 := cell_later hb2 hU.un.u5
  have x10 := cell_later hb2 hU.un.u10
  rw [hs] at x5
  rw [show ((1 : Nat) : Int) = (1 : Int) from rfl] at x10
  have y0 : ((w.alloc (.cells #[.pointer (some ⟨M, 0, none⟩)] 158)).alloc (.cells #[.int .i64 0, .int .i64 0, .nilFunc] 45)).cell? ⟨w.heap.size, 0, none⟩ = some (.pointer (some ⟨M, 0, none⟩)) := by simp [go_sem]
  have hg : ((w.alloc (.cells #[.pointer (some ⟨M, 0, none⟩)] 158)).alloc (.cells #[.int .i64 0, .int .i64 0, .nilFunc] 45)).heap[w.heap.size + 1]? = some (.cells #[.int .i64 0, .int .i64 0, .nilFunc] 45) := alloc_at (by simp)
  have HG := hide hg
  have HB2 := hide hb2
  clear hC hU hb2 hg
  go_enter Tryz.func128, Tryz.ntmps128
  go_wp2
  generalize (w.alloc (.cells #[.pointer (some ⟨M, 0, none⟩)] 158)).alloc (.cells #[.int .i64 0, .int .i64 0, .nilFunc] 45) = w3 at *
  go_quiet (fail)
  have hbq : Below w3.heap.size w3 (w3.drewN nq) := bdn (Below.refl _ _) nq
  have z0 := cell_later hbq y0
  have z5 := cell_later hbq x5
  have HG4 := hide ((hbq.block (w.heap.size + 1) (Array.getElem?_eq_some_iff.1 HG.out).1).trans HG.out)
  have HB4 := hide (bthen HB2.out hbq)
  clear HG HB2 hbq y0 x5 x10
  generalize w3.drewN nq = w4 at *
  have hbd : Below w4.heap.size w4 w4.drew := (Below.refl _ w4).drew
  have HR := hide (r45 HG4.out)
  obtain ⟨q0, q1, q2, f0, f1, f2⟩ := HR.out.1
  have HBX : Hid (Bxs w4 v M [(⟨w.heap.size, 0, none⟩, .pointer (some ⟨M, 0, none⟩))]) := fun q x hq => by
    simp only [List.mem_cons, List.mem_nil_iff, or_false, Prod.mk.injEq] at hq
    rcases hq with ⟨rfl, rfl⟩
    exact ⟨z0, HNW.out _ (Nat.le_refl _)⟩
  have hbs := set3_bxs HBX.out (R := w.heap.size + 1) (fun q x hq => by
      simp only [List.mem_cons, List.mem_nil_iff, or_false, Prod.mk.injEq] at hq
      rcases hq with ⟨rfl, rfl⟩
      simp) (.int .i64 1) (.int .i64 3) (.func (.func 156) #[] #[.pointer (some ⟨w.heap.size, 0, none⟩)])
  have HEND : Hid (PtOut w0 w M v C 1 1 3 (differT C 0 1 V0) (some V0) (.returned (.agg #[.int .i64 1, .int .i64 3, .func (.func 156) #[] #[.pointer (some ⟨w.heap.size, 0, none⟩)]])) (set3 w4 (w.heap.size + 1) (.int .i64 1) (.int .i64 3) (.func (.func 156) #[] #[.pointer (some ⟨w.heap.size, 0, none⟩)])).drew) :=
    ⟨_, rfl, rfl, rfl, rfl, rfl, (set3_below HB4.out (by omega) _ _ _).drew, hbs.later (Below.refl _ _).drew, HMK.out w.heap.size 3, enter156⟩
  have w1 := wrap_id (x := 1) (by decide) (by decide)
  have w2 := wrap_id (x := 2) (by decide) (by decide)
  have w3 := wrap_id (x := 3) (by decide) (by decide)
  clear hbs
  go_wp2
  go_region_held3 (fun w' => w'.cell? ⟨w.heap.size, 0, none⟩ = some (.pointer (some ⟨M, 0, none⟩)) ∧ w'.cell? ⟨M, 5, none⟩ = some (.int .i64 1))
    (first | exact ⟨cell_later hbd z0, cell_later hbd z5⟩ | exact ⟨z0, z5⟩ | exact ⟨cell_set_far (cell_set_far (cell_set_far z0 (by simp)) (by simp)) (by simp), cell_set_far (cell_set_far (cell_set_far z5 (by simp; omega)) (by simp; omega)) (by simp; omega)⟩ | go_keep)
    (fail)
  all_goals
    rename_i hHeld
    clear hHeld hbd z0 z5 HG4 HB4 HMK HNW HBX
    go_wp2
    refine bodyPost_ret (results_cell_row rfl _ _ (w.heap.size + 1) 45 _ _ _ rfl (HR.out.2 _ _ _) Tryz.underlying45 rfl (by kernel_rfl)) rfl ?_
    exact HEND.out
end Go.Proofs.YtjhkecnnhddhbaaGreatDoor
