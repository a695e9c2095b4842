/- Steps, unrolled: the parts of what states begin as, of what is bad. -/
import Derived.Test.YtjhkecnnhddhbaaGreatDoorKi
namespace Go.Proofs.YtjhkecnnhddhbaaGreatDoor
open Go.RowKit Go.Maps Go.WideMaps
set_option maxRecDepth 100000
set_option autoImplicit false

theorem begins_makes (w0 : World) (M : Nat) (C : Ci) (last : Nat) (hC : COk w0 C last) (U G : Nat) (cs : Int) :
    Makes w0 M C last ⟨0, cs, 51, #[.pointer (some ⟨G, 0, none⟩), .pointer (some ⟨U, 0, none⟩)], [(⟨U, 0, none⟩, .pointer (some ⟨M, 0, none⟩)), (⟨G, 0, none⟩, C.i.v)], beginsT C, none⟩ :=
  fun w v vars rs h1 h2 h3 _ _ _ => beginsMake_any w0 M C last hC U G w v vars rs h1 h2 h3
theorem bad_makes (w0 : World) (M : Nat) (C : Ci) (last : Nat) (hC : COk w0 C last) (U : Nat) (cs : Int) :
    Makes w0 M C last ⟨0, cs, 47, #[.pointer (some ⟨U, 0, none⟩)], [(⟨U, 0, none⟩, .pointer (some ⟨M, 0, none⟩))], [badN C last C.b.ns.length], none⟩ :=
  fun w v vars rs h1 h2 h3 _ _ _ => badMake_any w0 M C last hC U w v vars rs h1 h2 h3
set_option maxHeartbeats 1000000 in
theorem none_makes (w0 : World) (M : Nat) (C : Ci) (last : Nat) (cs : Int) : Makes w0 M C last ⟨0, cs, 46, #[], [], [], none⟩ := by
  intro w v vars rs h1 h2 h3 _ _ _
  have HE := hide (show MkOut w0 w M v vars rs [] C last (.returned (.tuple #[])) w from ⟨rfl, v, rs, by simp, h1, Kp.refl _ _ _⟩)
  simp only
  clear h1 h2 h3
  go_enter Tryz.func46, Tryz.ntmps46
  go_wp2
  go_end0
  exact HE.out

set_option maxHeartbeats 8000000 in
theorem begins_any (w0 : World) (M : Nat) (C : Ci) (last : Nat) (hC : CO w0 C last) (w : World) (v : Value) (vars : Int) (rs : List Row) (hU : Un w0 w M v vars rs C last) :
    Calls Tryz.prog 19 #[.pointer (some ⟨M, 0, none⟩)] w (PtOut w0 w M v C last 0 (cntB (-1) C.i.ns C.i.ns.length : Nat) (beginsT C) none) := by
  have hil := hC.il
  have hsm := hC.sm
  have hi1 := hC.i1
  have ha0 := hC.a0
  have HNW := hide (fun g (hg : w.heap.size ≤ g) => hU.new hg)
  have HMK := hide (fun U G cs (hv : ((last : Int) + 1) * C.f ≤ 200000) => begins_makes w0 M C last ⟨hC, hv⟩ U G cs)
  have u7 := hU.un.u6
  have HI := hide (hC.at'.i.later hU.bl)
  have HB := hide (beg w M C.i.v 25)
  have x7 := cell_later HB.out.b2 u7
  have y0 := HB.out.c0
  have y2 := HB.out.c2
  have HR := hide (r45 HB.out.g1)
  have HB3 := hide HB.out.b3
  have HI3 := hide (HI.out.later HB.out.b3)
  clear hC hU HB u7
  simp only [Sl.v] at *
  go_enter Tryz.func19, Tryz.ntmps19
  go_wp2_with fail
  generalize ((w.alloc (.cells #[.pointer (some ⟨M, 0, none⟩)] 40)).alloc (.cells #[.int .i64 0, .int .i64 0, .nilFunc] 45)).alloc (.cells #[.slice C.i.at' C.i.ns.length C.i.cap] 25) = w3 at *
  refine (besides_any (-1) C.i.ns C.i.at' C.i.cap (by omega) w3 HI3.out).mono ?_
  rintro e w4 ⟨rfl, hw⟩
  obtain rfl : w3 = w4 := hw.symm
  obtain ⟨q0, q1, q2, f0, f1, f2⟩ := HR.out.1
  generalize cntB (-1) C.i.ns C.i.ns.length = Z at *
  have HBX : Hid (Bxs w3 v M [(⟨w.heap.size, 0, none⟩, .pointer (some ⟨M, 0, none⟩)), (⟨w.heap.size + 1 + 1, 0, none⟩, .slice C.i.at' C.i.ns.length C.i.cap)]) := fun q x hq => by
    simp only [List.mem_cons, List.mem_nil_iff, or_false, Prod.mk.injEq] at hq
    rcases hq with ⟨rfl, rfl⟩ | ⟨rfl, rfl⟩
    · exact ⟨y0, HNW.out _ (Nat.le_refl _)⟩
    · exact ⟨y2, HNW.out _ (by simp; omega)⟩
  have HEND : Hid (PtOut w0 w M v C last 0 Z (beginsT C) none (.returned (.agg #[.int .i64 0, .int .i64 Z, .func (.func 51) #[] #[.pointer (some ⟨w.heap.size + 1 + 1, 0, none⟩), .pointer (some ⟨w.heap.size, 0, none⟩)]])) (set3 w3 (w.heap.size + 1) (.int .i64 0) (.int .i64 Z) (.func (.func 51) #[] #[.pointer (some ⟨w.heap.size + 1 + 1, 0, none⟩), .pointer (some ⟨w.heap.size, 0, none⟩)]))) :=
    ⟨_, rfl, rfl, rfl, rfl, rfl, set3_below HB3.out (by omega) _ _ _, set3_bxs HBX.out (fun q x hq => by
      simp only [List.mem_cons, List.mem_nil_iff, or_false, Prod.mk.injEq] at hq
      rcases hq with ⟨rfl, rfl⟩ | ⟨rfl, rfl⟩ <;> simp) _ _ _, HMK.out w.heap.size (w.heap.size + 1 + 1) Z, enter51⟩
  clear x7 y0 y2 HB3 HBX HMK HNW HI3 HI hw
  go_wp2
  refine bodyPost_ret (results_cell_row rfl _ _ (w.heap.size + 1) 45 _ _ _ rfl (HR.out.2 _ _ _) Tryz.underlying45 rfl (by kernel_rfl)) rfl ?_
  exact HEND.out

/-- The clause that something is bad at the last step. -/
def badC (C : Ci) (last : Nat) : List (List Int) := if (1 : Int) ∈ C.b.ns then [] else [badN C last C.b.ns.length]
set_option maxHeartbeats 8000000 in
theorem bad_any (w0 : World) (M : Nat) (C : Ci) (last : Nat) (hC : CO w0 C last) (w : World) (v : Value) (vars : Int) (rs : List Row) (hU : Un w0 w M v vars rs C last) :
    Calls Tryz.prog 15 #[.pointer (some ⟨M, 0, none⟩)] w (PtOut w0 w M v C last 0 ((badC C last).length : Nat) (badC C last) none) := by
  have hbl := hC.bl
  have HNW := hide (fun g (hg : w.heap.size ≤ g) => hU.new hg)
  have HMK := hide (fun U cs (hv : ((last : Int) + 1) * C.f ≤ 200000) => bad_makes w0 M C last ⟨hC, hv⟩ U cs)
  have HI := hide (hC.at'.b.later hU.bl)
  have hb2 : Below w.heap.size w ((w.alloc (.cells #[.pointer (some ⟨M, 0, none⟩)] 40)).alloc (.cells #[.int .i64 0, .int .i64 0, .nilFunc] 45)) := bal (bal (Below.refl _ _) _) _
  have x8 := cell_later hb2 hU.un.u8
  have y0 : ((w.alloc (.cells #[.pointer (some ⟨M, 0, none⟩)] 40)).alloc (.cells #[.int .i64 0, .int .i64 0, .nilFunc] 45)).cell? ⟨w.heap.size, 0, none⟩ = some (.pointer (some ⟨M, 0, none⟩)) := by simp [go_sem]
  have hg : ((w.alloc (.cells #[.pointer (some ⟨M, 0, none⟩)] 40)).alloc (.cells #[.int .i64 0, .int .i64 0, .nilFunc] 45)).heap[w.heap.size + 1]? = some (.cells #[.int .i64 0, .int .i64 0, .nilFunc] 45) := alloc_at (by simp)
  have HR := hide (r45 hg)
  have HB2 := hide hb2
  have HI3 := hide (HI.out.later hb2)
  have HD : Hid (badC C last = if (1 : Int) ∈ C.b.ns then [] else [badN C last C.b.ns.length]) := rfl
  clear hC hU hb2 hg
  simp only [Sl.v] at *
  go_enter Tryz.func15, Tryz.ntmps15
  go_wp2_with fail
  generalize (w.alloc (.cells #[.pointer (some ⟨M, 0, none⟩)] 40)).alloc (.cells #[.int .i64 0, .int .i64 0, .nilFunc] 45) = w3 at *
  refine (containsI_any 1 C.b.ns C.b.at' C.b.cap (by omega) w3 HI3.out).mono ?_
  rintro e w4 ⟨rfl, hw⟩
  obtain rfl : w3 = w4 := hw.symm
  obtain ⟨q0, q1, q2, f0, f1, f2⟩ := HR.out.1
  by_cases h1 : (1 : Int) ∈ C.b.ns
  · have HE : Hid (badC C last = []) := by unfold Hid; rw [HD.out, if_pos h1]
    have hd : decide ((1 : Int) ∈ C.b.ns) = true := by simpa using h1
    rw [hd]
    have HEND : Hid (PtOut w0 w M v C last 0 ((([] : List (List Int)).length : Nat) : Int) [] none (.returned (.agg #[.int .i64 0, .int .i64 0, .func (.func 46) #[] #[]])) (set3 w3 (w.heap.size + 1) (.int .i64 0) (.int .i64 0) (.func (.func 46) #[] #[]))) :=
      ⟨⟨0, 0, 46, #[], [], [], none⟩, rfl, rfl, rfl, rfl, rfl, set3_below HB2.out (by omega) _ _ _, fun q x hq => by simp at hq, fun _ => none_makes w0 M C last 0, enter46⟩
    clear x8 y0 HB2 HMK HNW HI3 HI hw HD h1 hd
    go_wp2
    refine bodyPost_ret (results_cell_row rfl _ _ (w.heap.size + 1) 45 _ _ _ rfl (HR.out.2 _ _ _) Tryz.underlying45 rfl (by kernel_rfl)) rfl ?_
    rw [HE.out]
    exact HEND.out
  · have HE : Hid (badC C last = [badN C last C.b.ns.length]) := by unfold Hid; rw [HD.out, if_neg h1]
    have hd : decide ((1 : Int) ∈ C.b.ns) = false := by simpa using h1
    rw [hd]
    have HBX : Hid (Bxs w3 v M [(⟨w.heap.size, 0, none⟩, .pointer (some ⟨M, 0, none⟩))]) := fun q x hq => by
      simp only [List.mem_cons, List.mem_nil_iff, or_false, Prod.mk.injEq] at hq
      rcases hq with ⟨rfl, rfl⟩
      exact ⟨y0, HNW.out _ (Nat.le_refl _)⟩
    have HEND : Hid (PtOut w0 w M v C last 0 (([badN C last C.b.ns.length].length : Nat) : Int) [badN C last C.b.ns.length] none (.returned (.agg #[.int .i64 0, .int .i64 1, .func (.func 47) #[] #[.pointer (some ⟨w.heap.size, 0, none⟩)]])) (set3 w3 (w.heap.size + 1) (.int .i64 0) (.int .i64 1) (.func (.func 47) #[] #[.pointer (some ⟨w.heap.size, 0, none⟩)]))) :=
      ⟨_, rfl, rfl, rfl, rfl, rfl, set3_below HB2.out (by omega) _ _ _, set3_bxs HBX.out (fun q x hq => by
        simp only [List.mem_cons, List.mem_nil_iff, or_false, Prod.mk.injEq] at hq
        rcases hq with ⟨rfl, rfl⟩
        simp) _ _ _, HMK.out w.heap.size 1, enter47⟩
    clear x8 y0 HB2 HMK HNW HI3 HI hw HD h1 hd HBX
    go_wp2
    refine bodyPost_ret (results_cell_row rfl _ _ (w.heap.size + 1) 45 _ _ _ rfl (HR.out.2 _ _ _) Tryz.underlying45 rfl (by kernel_rfl)) rfl ?_
    rw [HE.out]
    exact HEND.out
end Go.Proofs.YtjhkecnnhddhbaaGreatDoor
