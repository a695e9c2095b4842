/- The model that turns round, and what must be in any case. -/
import Derived.Test.YtagaemlgompggaaGreatDoorNhM
namespace Go.Proofs.YtagaemlgompggaaGreatDoor.Ev
open Go.RowKit
set_option maxRecDepth 100000

def tgN : List Nd := [⟨1, 1, 0, 0, 0, 0⟩, ⟨3, 1, 0, 0, 0, 0⟩, ⟨4, 1, 1, 0, 0, 0⟩]
theorem tg_check : checkE tgN [(1, 0)] [(1, 2)] [1] [] = 0 := by decide
theorem tg_states : sel (isK tgN 3) tgN.length = [1] := by decide

set_option maxRecDepth 100000 in
set_option maxHeartbeats 1000000 in
theorem toggle_any (w : World) :
    Calls Tryz.prog 17 #[] w fun e w' => ∃ B0 B1 B2 B3, e = .returned (Mv.val ⟨some ⟨B0, 0, none⟩, 3, some ⟨B1, 0, none⟩, 1, 1, some ⟨B2, 0, none⟩, 1, 1, some ⟨B3, 0, none⟩, 1, 1, none, 0, 0⟩ 3) ∧
      NodesAt w' (some ⟨B0, 0, none⟩) tgN ∧ PairsAt w' (some ⟨B1, 0, none⟩) [(1, 0)] ∧ PairsAt w' (some ⟨B2, 0, none⟩) [(1, 2)] ∧ IntsAt w' (some ⟨B3, 0, none⟩) [1] ∧ Below w.heap.size w w' := by
  go_enter Tryz.func17, Tryz.ntmps17
  go_wp2
  refine bodyPost_ret (v := .agg #[.slice (some ⟨w.heap.size + 1, 0, none⟩) 3 3, .slice (some ⟨w.heap.size + 1 + 1, 0, none⟩) 1 1, .slice (some ⟨w.heap.size + 1 + 1 + 1, 0, none⟩) 1 1, .slice (some ⟨w.heap.size + 1 + 1 + 1 + 1, 0, none⟩) 1 1, .slice none 0 0]) (by simp [results, Tryz.results17, go_sem]) rfl ⟨w.heap.size + 1, w.heap.size + 1 + 1, w.heap.size + 1 + 1 + 1, w.heap.size + 1 + 1 + 1 + 1, rfl, ?_, ?_, ?_, ?_, ?_⟩
  · intro _
    refine ⟨w.heap.size + 1, 0, rfl, fun i hi => ?_⟩
    match i, hi with
    | 0, _ => simp [go_sem, tgN]
    | 1, _ => simp [go_sem, tgN]
    | 2, _ => simp [go_sem, tgN]
  · intro _
    refine ⟨w.heap.size + 1 + 1, 0, rfl, fun i hi => ?_⟩
    match i, hi with
    | 0, _ => simp [go_sem]
  · intro _
    refine ⟨w.heap.size + 1 + 1 + 1, 0, rfl, fun i hi => ?_⟩
    match i, hi with
    | 0, _ => simp [go_sem]
  · intro _
    refine ⟨w.heap.size + 1 + 1 + 1 + 1, 0, rfl, fun i hi => ?_⟩
    match i, hi with
    | 0, _ => simp [go_sem]
  · exact bal (bal (bal (bal (bal (Below.refl _ _) _) _) _) _) _

end Go.Proofs.YtagaemlgompggaaGreatDoor.Ev
