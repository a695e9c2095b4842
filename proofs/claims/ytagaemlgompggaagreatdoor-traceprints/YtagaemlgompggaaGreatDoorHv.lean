/- trace.Bad and trace.Check at the model that turns round. -/
import Derived.Test.YtagaemlgompggaaGreatDoorHu
namespace Go.Proofs.YtagaemlgompggaaGreatDoor
open Go.RowKit
set_option maxRecDepth 100000

set_option maxHeartbeats 1000000 in
theorem bad1_any (v : Value) (b x : Bool) (h l : Nat) (hne : h ≠ l) (w : World) (hh : w.heap[h]? = some (.cells #[.bool true] 4 (0, 0))) (hl : w.heap[l]? = some (.cells #[.bool x] 4 (0, 0))) :
    Calls Tryz.prog 33 #[v, .bool true, .bool b, .pointer (some ⟨h, 0, none⟩), .pointer (some ⟨l, 0, none⟩)] w fun e w' => e = .returned (.tuple #[]) ∧ w' = (w.setCell ⟨h, 0, none⟩ (.bool true)).setCell ⟨l, 0, none⟩ (.bool b) := by
  have c0 : w.cell? ⟨h, 0, none⟩ = some (.bool true) := by rw [Lib.cell_of_heap hh]; rfl
  have c1 : w.cell? ⟨l, 0, none⟩ = some (.bool x) := by rw [Lib.cell_of_heap hl]; rfl
  have f0 : w.frozen? ⟨h, 0, none⟩ = false := Lib.frozen_of_heap hh 0
  have f1 : w.frozen? ⟨l, 0, none⟩ = false := Lib.frozen_of_heap hl 0
  have c2 : (w.setCell ⟨h, 0, none⟩ (.bool true)).cell? ⟨l, 0, none⟩ = some (.bool x) := by rw [World.cell?_setCell_other _ _ _ _ (by simp)]; exact c1
  clear hh hl
  go_enter Tryz.func33, Tryz.ntmps33
  go_wp2
  go_end0
  exact ⟨rfl, rfl⟩
set_option maxHeartbeats 1000000 in
theorem check1_any (v : Value) (b : Bool) (w : World) : Calls Tryz.prog 34 #[v, .bool true, .bool b] w fun e w' => e = .returned (.tuple #[]) ∧ w' = w := by
  go_enter Tryz.func34, Tryz.ntmps34
  go_wp2
  go_end0
  exact ⟨rfl, rfl⟩

def BadJ (h l : Nat) (k : Nat) (w : World) : Prop := w.heap[h]? = some (.cells #[.bool true] 4 (0, 0)) ∧ w.heap[l]? = some (.cells #[.bool (k == 2)] 4 (0, 0))
theorem bad_looks {w0 w : World} {h l : Nat} (hne : h ≠ l) (h0 : w0.heap.size ≤ h) (l0 : w0.heap.size ≤ l) (h1 : h < w.heap.size) (l1 : l < w.heap.size) :
    Looks 33 w0 w (BadJ h l) (fun v b => #[v, .bool true, .bool b, .pointer (some ⟨h, 0, none⟩), .pointer (some ⟨l, 0, none⟩)]) := by
  refine ⟨fun k w1 w2 hj hb => ⟨(hb.block _ h1).trans hj.1, (hb.block _ l1).trans hj.2⟩, fun k wr v hk hsz hj => ?_⟩
  refine (bad1_any v (k == 1) (k == 2) h l hne wr hj.1 hj.2).mono ?_
  rintro e w' ⟨rfl, rfl⟩
  have c0 : wr.cell? ⟨h, 0, none⟩ = some (.bool true) := by rw [Lib.cell_of_heap hj.1]; rfl
  have c1 : wr.cell? ⟨l, 0, none⟩ = some (.bool (k == 2)) := by rw [Lib.cell_of_heap hj.2]; rfl
  have e1 : (wr.setCell ⟨h, 0, none⟩ (.bool true)).heap[h]? = some (.cells #[.bool true] 4 (0, 0)) := by rw [heap_setCell_same _ _ _ _ _ _ hj.1]; rfl
  have e2 : (wr.setCell ⟨h, 0, none⟩ (.bool true)).heap[l]? = some (.cells #[.bool (k == 2)] 4 (0, 0)) := by rw [heap_setCell_other _ _ _ _ (by simpa using hne.symm)]; exact hj.2
  refine ⟨rfl, ⟨?_, ?_⟩, ((Below.refl _ _).setCell h0 _).setCell l0 _, fun g hg => ?_, fun a n ha => ?_⟩
  · rw [heap_setCell_other _ _ _ _ (by simpa using hne)]; exact e1
  · rw [heap_setCell_same _ _ _ _ _ _ e2]
    have : (k == 1) = (k + 1 == 2) := by rw [Bool.eq_iff_iff]; simp
    rw [this]
    rfl
  · rw [heap_setCell_other _ _ _ _ (by simp; omega), heap_setCell_other _ _ _ _ (by simp; omega)]
  · rw [World.cell?_setCell_other _ _ _ _ ?_, World.cell?_setCell_other _ _ _ _ ?_]
    · exact ha
    · rintro rfl
      rw [c0] at ha
      cases ha
    · rintro rfl
      rw [c1] at ha
      cases ha
theorem check_looks {w0 w : World} : Looks 34 w0 w (fun _ _ => True) (fun v b => #[v, .bool true, .bool b]) :=
  ⟨fun _ _ _ _ _ => trivial, fun k wr v _ _ _ => (check1_any v (k == 1) wr).mono fun e w' ⟨h1, h2⟩ => by
    subst h2
    exact ⟨h1, trivial, Below.refl _ _, fun _ _ => rfl, fun _ _ h => h⟩⟩

set_option maxHeartbeats 4000000 in
theorem bad_tg (B0 B1 B2 B3 : Nat) (sp rp : Option Addr) (sc rc : Nat) (w : World) (h0 : TgAt w B0 B1 B2 B3) (hS0 : Ev.SL w (.slice sp 1 sc) [0]) (hR0 : RowsAt w rp [nilRow, nilRow]) :
    Calls Tryz.prog 16 #[mtg B0 B1 B2 B3, .agg #[.slice sp 1 sc, .slice rp 2 rc]] w fun e w' => e = .returned (.tuple #[.bool true, .int .i64 0]) ∧ Below w.heap.size w w' := by
  have hmf : ∀ (fn : Fn) (first cap : Array Value) (w : World), (Instr.makeFunc fn first cap).run Tryz.prog w = .ok (.func fn first cap) w := fun _ _ _ _ => rfl
  have hbA : Below w.heap.size w ((((w.alloc (.cells #[.slice (some ⟨B0, 0, none⟩) 3 3, .slice (some ⟨B1, 0, none⟩) 1 1, .slice (some ⟨B2, 0, none⟩) 1 1, .slice (some ⟨B3, 0, none⟩) 1 1, .slice none 0 0] 51)).alloc (.cells #[.slice sp 1 sc, .slice rp 2 rc] 25)).alloc (.cells #[.bool true] 4)).alloc (.cells #[.bool false] 4)) := bal (bal (bal (bal (Below.refl _ _) _) _) _) _
  have hJ : BadJ (w.heap.size + 1 + 1) (w.heap.size + 1 + 1 + 1) 0 ((((w.alloc (.cells #[.slice (some ⟨B0, 0, none⟩) 3 3, .slice (some ⟨B1, 0, none⟩) 1 1, .slice (some ⟨B2, 0, none⟩) 1 1, .slice (some ⟨B3, 0, none⟩) 1 1, .slice none 0 0] 51)).alloc (.cells #[.slice sp 1 sc, .slice rp 2 rc] 25)).alloc (.cells #[.bool true] 4)).alloc (.cells #[.bool false] 4)) := by
    constructor
    · refine (Below.heap_alloc _ _ _ (by simp)).trans ?_
      have := heap_alloc_new ((w.alloc (.cells #[.slice (some ⟨B0, 0, none⟩) 3 3, .slice (some ⟨B1, 0, none⟩) 1 1, .slice (some ⟨B2, 0, none⟩) 1 1, .slice (some ⟨B3, 0, none⟩) 1 1, .slice none 0 0] 51)).alloc (.cells #[.slice sp 1 sc, .slice rp 2 rc] 25)) (.cells #[.bool true] 4)
      rw [World.size_alloc, World.size_alloc] at this
      exact this
    · have := heap_alloc_new (((w.alloc (.cells #[.slice (some ⟨B0, 0, none⟩) 3 3, .slice (some ⟨B1, 0, none⟩) 1 1, .slice (some ⟨B2, 0, none⟩) 1 1, .slice (some ⟨B3, 0, none⟩) 1 1, .slice none 0 0] 51)).alloc (.cells #[.slice sp 1 sc, .slice rp 2 rc] 25)).alloc (.cells #[.bool true] 4)) (.cells #[.bool false] 4)
      rw [World.size_alloc, World.size_alloc, World.size_alloc] at this
      exact this
  have HW := hide (walk33_tg (.pointer (some ⟨w.heap.size + 1 + 1, 0, none⟩)) (.pointer (some ⟨w.heap.size + 1 + 1 + 1, 0, none⟩)) B0 B1 B2 B3 sp rp sc rc (BadJ (w.heap.size + 1 + 1) (w.heap.size + 1 + 1 + 1)) w _ h0 hS0 hR0 hbA hJ (bad_looks (by omega) (by omega) (by omega) (by simp) (by simp)))
  clear hbA hJ h0 hS0 hR0
  go_enter Tryz.func16, Tryz.ntmps16
  go_wp2_with fail
  refine HW.out.mono ?_
  rintro e w1 ⟨rfl, ⟨hj1, hj2⟩, hb1⟩
  have c0 : w1.cell? ⟨w.heap.size + 1 + 1, 0, none⟩ = some (.bool true) := by rw [Lib.cell_of_heap hj1]; rfl
  have c1 : w1.cell? ⟨w.heap.size + 1 + 1 + 1, 0, none⟩ = some (.bool true) := by rw [Lib.cell_of_heap hj2]; rfl
  have HB1 := hide hb1
  clear hj1 hj2 hb1 HW
  go_wp2
  go_ret2
  exact ⟨rfl, HB1.out⟩

set_option maxHeartbeats 4000000 in
theorem check_tg (B0 B1 B2 B3 : Nat) (sp rp : Option Addr) (sc rc : Nat) (w : World) (h0 : TgAt w B0 B1 B2 B3) (hS0 : Ev.SL w (.slice sp 1 sc) [0]) (hR0 : RowsAt w rp [nilRow, nilRow]) :
    Calls Tryz.prog 18 #[mtg B0 B1 B2 B3, .agg #[.slice sp 1 sc, .slice rp 2 rc]] w fun e w' => e = .returned (.int .i64 0) ∧ Below w.heap.size w w' := by
  have hbA : Below w.heap.size w ((w.alloc (.cells #[.slice (some ⟨B0, 0, none⟩) 3 3, .slice (some ⟨B1, 0, none⟩) 1 1, .slice (some ⟨B2, 0, none⟩) 1 1, .slice (some ⟨B3, 0, none⟩) 1 1, .slice none 0 0] 51)).alloc (.cells #[.slice sp 1 sc, .slice rp 2 rc] 25)) := bal (bal (Below.refl _ _) _) _
  have HW := hide (walk34_tg B0 B1 B2 B3 sp rp sc rc (fun _ _ => True) w _ h0 hS0 hR0 hbA trivial check_looks)
  clear hbA h0 hS0 hR0
  go_enter Tryz.func18, Tryz.ntmps18
  go_wp2_with fail
  refine HW.out.mono ?_
  rintro e w1 ⟨rfl, _, hb1⟩
  have HB1 := hide hb1
  clear hb1 HW
  go_wp2
  go_ret
  exact ⟨rfl, HB1.out⟩
end Go.Proofs.YtagaemlgompggaaGreatDoor
