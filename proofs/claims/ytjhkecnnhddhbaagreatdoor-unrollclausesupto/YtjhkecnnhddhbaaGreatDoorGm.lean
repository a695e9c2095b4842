/- Gates: Eval. -/
import Derived.Test.YtjhkecnnhddhbaaGreatDoorGl
namespace Go.Proofs.YtjhkecnnhddhbaaGreatDoor
open Go.RowKit Go.Maps Go.WideMaps
set_option maxRecDepth 100000
set_option maxRecDepth 100000
set_option maxRecDepth 100000

/-- A row of bools in memory. -/
def BRow (w : World) (g : Nat) (bs : List Bool) : Prop := ∀ (j : Nat) (h : j < bs.length), w.cell? ⟨g, j, none⟩ = some (.bool bs[j]) ∧ w.frozen? ⟨g, j, none⟩ = false
theorem BRow.later {w w1 : World} {g : Nat} {bs : List Bool} (h : BRow w g bs) (hb : Below w.heap.size w w1) : BRow w1 g bs := fun j hj =>
  ⟨cell_later hb (h j hj).1, by rw [hb.frozen (World.block_lt_of_cell? _ _ (h j hj).1)]; exact (h j hj).2⟩
theorem BRow.set {w : World} {g : Nat} {bs : List Bool} (h : BRow w g bs) (k : Nat) (b : Bool) : BRow (w.setCell ⟨g, k, none⟩ (.bool b)) g (bs.set k b) := by
  intro j hj
  rw [List.length_set] at hj
  refine ⟨?_, by rw [World.frozen?_setCell]; exact (h j hj).2⟩
  by_cases e : k = j
  · subst e
    rw [World.cell?_setCell_same w _ _ (h k hj).1]
    simp
  · rw [World.cell?_setCell_other w _ _ _ (by simp), (h j hj).1]
    rw [List.getElem_set_ne e]
theorem brow_bools {w : World} {g : Nat} {bs : List Bool} (h : BRow w g bs) : BoolsAt w (some ⟨g, 0, none⟩) bs := fun _ => ⟨g, 0, rfl, fun i hi => by rw [Nat.zero_add]; exact (h i hi).1⟩

theorem make_row (n : Nat) (hn : n ≤ 17592186044416) (w : World) : ∃ w', (Instr.makeSlice 88 (.int .i64 (n : Int)) (.int .i64 (n : Int))).run Tryz.prog w = .ok (.slice (some ⟨w.heap.size, 0, none⟩) n n) w' ∧ BRow w' w.heap.size (List.replicate n false) ∧ Below w.heap.size w w' ∧ w.heap.size < w'.heap.size := by
  obtain ⟨i0, hi, hz0, hz1, hz2⟩ := info_parts info4
  obtain ⟨w', h1, h2, h3⟩ := run_make_full (P := Tryz.prog) w w.heap.size 88 4 i0 (.bool false) 1 Tryz.underlying88 hi hz0 hz1 .i64 .i64 n (by rw [hz2]; omega) (by unfold maxLen; omega) (Nat.le_refl _)
  refine ⟨w', h1, fun j hj => ?_, ⟨h3.os, h3.tape, h3.output, h3.size, fun k hk => h3.block k hk (by simp)⟩, (h2.lt w.heap.size rfl).2⟩
  have hj' : j < n := by simpa using hj
  refine ⟨?_, h2.frozenAt j⟩
  rw [h2.cellAt j (by omega)]
  simp [toList_madeCells_one, hj', Value.cells]

/-- What Eval says. -/
def evE (ins : Int) (ps : List (Int × Int)) (bs : List Bool) (ls : List Int) : Int :=
  if chkE ins ps ≠ 0 then chkE ins ps else if ls.any (noLit (2 * (1 + ins + ps.length))) = true then 5 else if (bs.length : Int) ≠ ins then 1 else 0
def evL (ps : List (Int × Int)) (bs : List Bool) (ls : List Int) (e : Int) : List Bool := if e = 0 then ls.map (litV (nodesV bs ps ps.length)) else []

/-- Some of them done. -/
def curB (f : Int → Bool) (ls : List Int) (k : Nat) : List Bool := (ls.take k).map f ++ List.replicate (ls.length - k) false
theorem curB_zero (f : Int → Bool) (ls : List Int) : curB f ls 0 = List.replicate ls.length false := by simp [curB]
theorem curB_all (f : Int → Bool) (ls : List Int) : curB f ls ls.length = ls.map f := by simp [curB]
theorem curB_len (f : Int → Bool) (ls : List Int) (k : Nat) (h : k ≤ ls.length) : (curB f ls k).length = ls.length := by simp [curB]; omega
theorem curB_set (f : Int → Bool) (ls : List Int) (k : Nat) (h : k < ls.length) : (curB f ls k).set k (f ls[k]) = curB f ls (k + 1) := by
  unfold curB
  rw [List.take_succ_eq_append_getElem h, List.map_append, List.set_append_right _ _ (by simp; omega)]
  have e : ls.length - k = (ls.length - (k + 1)) + 1 := by omega
  have e2 : k - ((ls.take k).map f).length = 0 := by simp; omega
  rw [e, e2, List.replicate_succ, List.set_cons_zero]
  simp

end Go.Proofs.YtjhkecnnhddhbaaGreatDoor
