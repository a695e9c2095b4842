/- A list of numbers that is its own, sorted, and each of them once. -/
import Derived.Test.YtdlfjijfdibocaaPi
import Derived.Test.YtdlfjijfdibocaaUh
import Derived.Test.YtdlfjijfdibocaaShelf
import Derived.Sort.OwnSortedInts
import Derived.Lib.RowBridge
namespace Go.Proofs.Ytdlfjijfdibocaa.Pf
open Go.RowKit Go.Maps Go.WideMaps Go.Sort
set_option maxRecDepth 100000

theorem row_parts {w : World} {G cap : Nat} {l : List Int} (h : w.ownsRow 0 3 1 (.slice (some ⟨G, 0, none⟩) l.length cap) l.length (l.map (Value.int .i64))) : ∃ cur, w.heap[G]? = some (.cells cur 3 (0, 0)) ∧ l.length ≤ cap ∧ cap ≤ maxLen ∧ cur.size = cap ∧ cur.toList.take l.length = l.map (Value.int .i64) := by
  rcases h.2 with ⟨e, _⟩ | ⟨g, c, cur, e, _, hg, h1, h2, h3, h4⟩
  · cases e
  · injection e with e1 _ e3
    injection e1 with e1
    injection e1 with e1
    subst e1 e3
    exact ⟨cur, hg, h1, h2, by omega, by rw [Nat.mul_one] at h4; exact h4⟩
theorem sort_any (w : World) (G cap : Nat) (l : List Int) (hl : l.length ≤ 200) (hrow : w.ownsRow 0 3 1 (.slice (some ⟨G, 0, none⟩) l.length cap) l.length (l.map (Value.int .i64))) :
    Calls Try.prog 35 #[.slice (some ⟨G, 0, none⟩) l.length cap] w fun e w' => e = .returned (.tuple #[]) ∧ w'.ownsRow 0 3 1 (.slice (some ⟨G, 0, none⟩) l.length cap) l.length ((l.mergeSort fun x y => decide (x ≤ y)).map (Value.int .i64)) ∧ Fr (fun g => g = G) w w' (fun g => g = G) := by
  obtain ⟨cur, hg, h1, h2, h3, h4⟩ := row_parts hrow
  refine (Try.slices_Sort_int G 0 cap l w (holds_of_blockI hg h4) (hrow.lt G rfl).2 (by omega)).mono ?_
  rintro e w' ⟨rfl, n, os, rfl⟩
  refine ⟨rfl, ownsRow_sortedI (by simp) (Nat.zero_le _) hg h1 h2 (by omega), ?_⟩
  exact Fr.grown (grownBy_sortedI _) (fun g e => by injection e with e; exact e.symm)
theorem compact_any (w : World) (G cap : Nat) (l : List Int) (hl : l.length ≤ 200) (hrow : w.ownsRow 0 3 1 (.slice (some ⟨G, 0, none⟩) l.length cap) l.length (l.map (Value.int .i64))) :
    Calls Try.prog 36 #[.slice (some ⟨G, 0, none⟩) l.length cap] w fun e w' => e = .returned (.slice (some ⟨G, 0, none⟩) (Lib.compact l).length cap) ∧ w'.ownsRow 0 3 1 (.slice (some ⟨G, 0, none⟩) (Lib.compact l).length cap) (Lib.compact l).length ((Lib.compact l).map (Value.int .i64)) ∧ Fr (fun g => g = G) w w' (fun g => g = G) := by
  obtain ⟨cur, hg, h1, h2, h3, h4⟩ := row_parts hrow
  refine (Try.slices_Compact_int G 0 cap l w (holds_of_blockI hg h4) (by omega) h1).mono ?_
  rintro e w' ⟨rfl, q, rfl⟩
  have hle := Lib.compact_length_le l
  generalize hd : Lib.compact l = d at *
  have hg2 := heap_sortedI (os := #[]) (n := q) (d ++ List.replicate (l.length - d.length) 0).toArray hg
  have hgr := grownBy_sortedI (w := w) (g := G) (n := q) (os := #[]) (d ++ List.replicate (l.length - d.length) 0).toArray
  rw [grow_empty] at hg2 hgr
  refine ⟨rfl, ⟨by simp, .inr ⟨G, cap, _, rfl, Nat.zero_le _, hg2, by omega, h2, by simp [putCells]; omega, ?_⟩⟩, Fr.grown hgr (fun g e => by injection e with e; exact e.symm)⟩
  have ht := take_putCellsI cur (d ++ List.replicate (l.length - d.length) 0) (by simp; omega)
  have h5 := congrArg (List.take d.length) ht
  rw [List.take_take, Nat.min_eq_left (by simp)] at h5
  rw [Nat.mul_one, h5, List.map_append, List.take_left' (by simp)]
end Go.Proofs.Ytdlfjijfdibocaa.Pf
