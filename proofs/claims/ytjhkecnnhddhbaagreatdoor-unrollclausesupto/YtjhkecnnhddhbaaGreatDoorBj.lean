/- The blaster of the toggle, at its beginning. -/
import Derived.Test.YtjhkecnnhddhbaaGreatDoorBi
namespace Go.Proofs.YtjhkecnnhddhbaaGreatDoor.Ev
open Go.RowKit Go.Maps
set_option maxRecDepth 100000
set_option maxRecDepth 100000

theorem map_block {w w1 : World} {M n : Nat} {D : DataW Unit} {R : Value → Option (DataW Unit × List MemPlace)} (h : w.ownsMap Tryz.prog 3 R M n D) (hb : w1.heap[M]? = w.heap[M]?) : w1.ownsMap Tryz.prog 3 R M n D := by
  obtain ⟨es, clock, hh, hr⟩ := h
  exact ⟨es, clock, by rw [hb]; exact hh, hr⟩

/-- One In, made by the function that counts them. -/
theorem nextIn_any (Bi : Nat) (w : World) (base : Nat) (hb : base ≤ Bi) (hB : base ≤ w.heap.size) (c0 : w.cell? ⟨Bi, 0, none⟩ = some (.int .i64 0)) (f0 : w.frozen? ⟨Bi, 0, none⟩ = false) :
    Calls Tryz.prog 93 #[.int .i64 1, .func (.func 95) #[] #[.pointer (some ⟨Bi, 0, none⟩)]] w fun e w' => ∃ G, e = .returned (.slice (some ⟨G, 0, none⟩) 1 1) ∧ w.heap.size ≤ G ∧ Go.Proofs.YtjhkecnnhddhbaaGreatDoor.IRow w' G [2] ∧ w'.cell? ⟨Bi, 0, none⟩ = some (.int .i64 1) ∧ w'.frozen? ⟨Bi, 0, none⟩ = false ∧ Below base w w' ∧ ∀ g, ¬ g = Bi → g < w.heap.size → w'.heap[g]? = w.heap[g]? := by
  have h := Go.Proofs.YtjhkecnnhddhbaaGreatDoor.made_any 95 (.pointer (some ⟨Bi, 0, none⟩)) (fun k => 2 * ((k : Int) + 1)) 1 base (by omega) (fun g => g = Bi) (fun k wr => wr.cell? ⟨Bi, 0, none⟩ = some (.int .i64 (k : Int)) ∧ wr.frozen? ⟨Bi, 0, none⟩ = false) w hB (fun g h => by subst h; exact World.block_lt_of_cell? _ _ c0) ⟨c0, f0⟩
    (fun _ w1 w2 h hk => ⟨Go.Proofs.YtjhkecnnhddhbaaGreatDoor.cell_block h.1 (hk _ rfl), by rw [World.frozen?_of_block (w := w1) (a := ⟨Bi, 0, none⟩) (hk _ rfl)]; exact h.2⟩) Go.Proofs.YtjhkecnnhddhbaaGreatDoor.enterB58
    (fun k hk wr _ hj => (Go.Proofs.YtjhkecnnhddhbaaGreatDoor.start1_any k k (by omega) Bi wr hj.1 hj.2).mono fun e w' ⟨h1, h2⟩ => by
      subst h2
      exact ⟨h1, ⟨World.cell?_setCell_same wr _ _ hj.1, by rw [World.frozen?_setCell]; exact hj.2⟩, (Below.refl _ wr).setCell hb _, fun g hg _ => Below.heap_setCell wr _ _ g (by simpa using hg)⟩)
  exact h.mono fun e w' ⟨G, h1, h2, h3, h4, h5, h6⟩ => ⟨G, h1, h2, h3, h4.1, h4.2, h5, h6⟩

end Go.Proofs.YtjhkecnnhddhbaaGreatDoor.Ev
