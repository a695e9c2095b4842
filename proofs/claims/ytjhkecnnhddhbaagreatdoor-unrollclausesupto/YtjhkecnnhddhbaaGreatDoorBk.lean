/- The blaster of the toggle: start. -/
import Derived.Test.YtjhkecnnhddhbaaGreatDoorBj
namespace Go.Proofs.YtjhkecnnhddhbaaGreatDoor.Ev
open Go.RowKit Go.Maps
set_option maxRecDepth 100000
set_option maxRecDepth 100000

/-- What stands in any case, while the Ins are made. -/
structure StC (w wr : World) (B0 : Nat) : Prop where
  q0 : wr.cell? ⟨w.heap.size, 0, none⟩ = some (.slice (some ⟨B0, 0, none⟩) 3 3)
  b0 : wr.cell? ⟨w.heap.size + 2, 0, none⟩ = some (.pointer none)
  b1 : wr.cell? ⟨w.heap.size + 2, 1, none⟩ = some (.slice (some ⟨B0, 0, none⟩) 3 3)
  b2 : wr.cell? ⟨w.heap.size + 2, 2, none⟩ = some (.map (some (w.heap.size + 1)))
  bf : wr.frozen? ⟨w.heap.size + 2, 0, none⟩ = false
  i : wr.frozen? ⟨w.heap.size + 3, 0, none⟩ = false
  bel : Below w.heap.size w wr
  sz : w.heap.size + 4 ≤ wr.heap.size
theorem StC.later {w wr w1 : World} {B0 : Nat} (h : StC w wr B0) (hb : Below wr.heap.size wr w1) : StC w w1 B0 :=
  ⟨cell_later hb h.q0, cell_later hb h.b0, cell_later hb h.b1, cell_later hb h.b2, by rw [hb.frozen (World.block_lt_of_cell? _ _ h.b0)]; exact h.bf, by rw [hb.frozen (by have := h.sz; simp; omega)]; exact h.i, bthen h.bel hb, Nat.le_trans h.sz hb.size⟩
/-- Ahead of them. -/
structure StA (w wr : World) (B0 : Nat) : Prop where
  c : StC w wr B0
  own : wr.ownsMap Tryz.prog 3 slR (w.heap.size + 1) 0 (.map [])
  cnt : wr.cell? ⟨w.heap.size + 3, 0, none⟩ = some (.int .i64 0)
theorem StA.later {w wr w1 : World} {B0 : Nat} (h : StA w wr B0) (hb : Below wr.heap.size wr w1) : StA w w1 B0 := ⟨h.c.later hb, map_block h.own (hb.block _ (by have := h.c.sz; omega)), cell_later hb h.cnt⟩
/-- Behind them. -/
structure StB (w wr : World) (B0 G : Nat) : Prop where
  c : StC w wr B0
  own : wr.ownsMap Tryz.prog 3 slR (w.heap.size + 1) 1 ((DataW.map []).put (.int .i64 1) (slD G 0 1 1))
  cnt : wr.cell? ⟨w.heap.size + 3, 0, none⟩ = some (.int .i64 1)
  row : Go.Proofs.YtjhkecnnhddhbaaGreatDoor.IRow wr G [2]
  g : w.heap.size + 4 ≤ G

theorem kept_cell {w1 w2 : World} {a : Addr} {v : Value} {x : Nat} (h : w1.cell? a = some v) (hk : ∀ g, ¬ g = x → g < w1.heap.size → w2.heap[g]? = w1.heap[g]?) (hne : a.block ≠ x) : w2.cell? a = some v :=
  Go.Proofs.YtjhkecnnhddhbaaGreatDoor.cell_block h (hk _ hne (World.block_lt_of_cell? _ _ h))

/-- What the first In leaves. -/
theorem st_made {w wr w1 w2 : World} {B0 G : Nat} (h : StA w wr B0) (hsz : wr.heap.size ≤ w1.heap.size) (hG : wr.heap.size ≤ G) (hr : Go.Proofs.YtjhkecnnhddhbaaGreatDoor.IRow w1 G [2]) (hc : w1.cell? ⟨w.heap.size + 3, 0, none⟩ = some (.int .i64 1)) (hf : w1.frozen? ⟨w.heap.size + 3, 0, none⟩ = false)
    (hb : Below w.heap.size wr w1) (hk : ∀ g, ¬ g = w.heap.size + 3 → g < wr.heap.size → w1.heap[g]? = wr.heap[g]?)
    (hown : w2.ownsMap Tryz.prog 3 slR (w.heap.size + 1) 1 ((DataW.map []).put (.int .i64 1) (slD G 0 1 1))) (hg : w1.grownBy w2 (some (w.heap.size + 1))) : StB w w2 B0 G := by
  have hs := h.c.sz
  have hfz : ∀ a x, wr.cell? ⟨w.heap.size + 2, a, none⟩ = some x → wr.frozen? ⟨w.heap.size + 2, a, none⟩ = false → w1.frozen? ⟨w.heap.size + 2, a, none⟩ = false := fun a x h1 h2 => by
    rw [World.frozen?_of_block (w := wr) (a := ⟨w.heap.size + 2, a, none⟩) (hk _ (by simp) (World.block_lt_of_cell? _ _ h1))]; exact h2
  have b0' := kept_cell h.c.b0 hk (by simp)
  refine ⟨⟨hg.cell (kept_cell h.c.q0 hk (by simp)) (by simp), hg.cell b0' (by simp), hg.cell (kept_cell h.c.b1 hk (by simp)) (by simp), hg.cell (kept_cell h.c.b2 hk (by simp)) (by simp), ?_, ?_, ?_, ?_⟩, hown, hg.cell hc (by simp), ?_, by omega⟩
  · rw [Go.Proofs.YtjhkecnnhddhbaaGreatDoor.grown_frozen hg b0' (by simp)]; exact hfz _ _ h.c.b0 h.c.bf
  · rw [Go.Proofs.YtjhkecnnhddhbaaGreatDoor.grown_frozen hg hc (by simp)]; exact hf
  · exact (h.c.bel.trans hb).grown hg (by omega) (fun j hj => by cases hj; omega)
  · have := hg.size; omega
  · exact hr.kept (hg.block G (World.block_lt_of_cell? _ _ (hr 0 (by simp)).1) (by simp; omega))

end Go.Proofs.YtjhkecnnhddhbaaGreatDoor.Ev
