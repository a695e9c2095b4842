/- The model that turns round, and what must be in any case. -/
import Derived.Test.YtabnimgpednhjaaNe
namespace Go.Proofs.Ytabnimgpednhjaa
open Go.RowKit

def tgN : List Nd := [⟨1, 1, 0, 0, 0, 0⟩, ⟨3, 1, 0, 0, 0, 0⟩, ⟨4, 1, 1, 0, 0, 0⟩]
theorem tg_check : checkE tgN [(1, 0)] [(1, 2)] [1] [] = 0 := by decide
theorem tg_states : sel (isK tgN 3) tgN.length = [1] := by decide

set_option maxRecDepth 100000 in
set_option maxHeartbeats 1000000 in
theorem toggle_any (w : World) :
    Calls Try.prog 59 #[] w fun e w' => ∃ B0 B1 B2 B3, e = .returned (Mv.val ⟨some ⟨B0, 0, none⟩, 3, some ⟨B1, 0, none⟩, 1, 1, some ⟨B2, 0, none⟩, 1, 1, some ⟨B3, 0, none⟩, 1, 1, none, 0, 0⟩ 3) ∧
      NodesAt w' (some ⟨B0, 0, none⟩) tgN ∧ PairsAt w' (some ⟨B1, 0, none⟩) [(1, 0)] ∧ PairsAt w' (some ⟨B2, 0, none⟩) [(1, 2)] ∧ IntsAt w' (some ⟨B3, 0, none⟩) [1] ∧ Below w.heap.size w w' := by
  go_enter Try.func59, Try.ntmps59
  go_wp2
  refine bodyPost_ret (v := .agg #[.slice (some ⟨w.heap.size + 1, 0, none⟩) 3 3, .slice (some ⟨w.heap.size + 1 + 1, 0, none⟩) 1 1, .slice (some ⟨w.heap.size + 1 + 1 + 1, 0, none⟩) 1 1, .slice (some ⟨w.heap.size + 1 + 1 + 1 + 1, 0, none⟩) 1 1, .slice none 0 0]) (by simp [results, Try.results59, go_sem]) rfl ⟨w.heap.size + 1, w.heap.size + 1 + 1, w.heap.size + 1 + 1 + 1, w.heap.size + 1 + 1 + 1 + 1, rfl, ?_, ?_, ?_, ?_, ?_⟩
  · intro _
    refine ⟨w.heap.size + 1, 0, rfl, fun i hi => ?_⟩
    match i, hi with
    | 0, _ => simp [go_sem, tgN]
    | 1, _ => simp [go_sem, tgN]
    | 2, _ => simp [go_sem, tgN]
  · intro _
    refine ⟨w.heap.size + 1 + 1, 0, rfl, fun i hi => ?_⟩
    match i, hi with
    | 0, _ => simp [go_sem]
  · intro _
    refine ⟨w.heap.size + 1 + 1 + 1, 0, rfl, fun i hi => ?_⟩
    match i, hi with
    | 0, _ => simp [go_sem]
  · intro _
    refine ⟨w.heap.size + 1 + 1 + 1 + 1, 0, rfl, fun i hi => ?_⟩
    match i, hi with
    | 0, _ => simp [go_sem]
  · exact bal (bal (bal (bal (bal (Below.refl _ _) _) _) _) _) _

set_option maxRecDepth 100000 in
set_option maxHeartbeats 1000000 in
theorem modelBegun_any (w : World) : Calls Try.prog 22 #[] w fun e w' => e = .returned (.bool true) ∧ Below w.heap.size w w' := by
  go_enter Try.func22, Try.ntmps22
  go_wp2_with fail
  refine (toggle_any _).mono ?_
  rintro e w1 ⟨B0, B1, B2, B3, rfl, hN, hI, hX, hB, hb1⟩
  have HS := hide (fun _ : Unit => states_any (some ⟨B0, 0, none⟩) (some ⟨B1, 0, none⟩) (some ⟨B2, 0, none⟩) (some ⟨B3, 0, none⟩) none 3 1 1 1 0 tgN [(1, 0)] [(1, 2)] [1] [] (by simp [tgN]) (by simp) (by simp) (by simp [maxLen]) (by simp [maxLen]) w1 hN hI hX hB (fun h => by simp at h))
  rw [tg_check, if_pos rfl, tg_states] at HS
  clear hN hI hX hB
  go_wp2_with fail
  refine (HS.out ()).mono ?_
  rintro e w2 ⟨p, cap, l, rfl, rfl, hJ, hb2⟩
  obtain ⟨b, off, rfl, hc⟩ := hJ (by simp)
  have hc0 := hc 0 (by simp)
  have hbw := bthen hb1 hb2
  clear hc HS hb1 hb2 hJ
  go_wp2_with fail
  refine (toggle_any _).mono ?_
  rintro e w3 ⟨D0, D1, D2, D3, rfl, hN, hI, hX, hB, hb3⟩
  have HS := hide (fun _ : Unit => check_any (some ⟨D0, 0, none⟩) (some ⟨D1, 0, none⟩) (some ⟨D2, 0, none⟩) (some ⟨D3, 0, none⟩) none 3 1 1 1 0 tgN [(1, 0)] [(1, 2)] [1] [] (by simp [tgN, maxLen]) (by simp) (by simp) (by simp [maxLen]) (by simp [maxLen]) w3 hN hI hX hB (fun h => by simp at h))
  rw [tg_check] at HS
  have hbw3 := bthen hbw hb3
  have hc3 := cell_later hb3 hc0
  clear hN hI hX hB hc0 hb3 hbw
  go_wp2_with fail
  refine (HS.out ()).mono ?_
  rintro e w4 ⟨rfl, hb4⟩
  have hc4 := cell_later hb4 hc3
  have hbw4 := bthen hbw3 hb4
  clear hc3 HS hb4
  simp at hc4
  go_wp2
  go_ret
  exact ⟨rfl, hbw4⟩

end Go.Proofs.Ytabnimgpednhjaa
