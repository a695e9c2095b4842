/- What must be in any case, of what comes of a model. -/
import Derived.Test.YtlpflmnijhfkfaaEi
import Derived.Test.YtlpflmnijhfkfaaOb
namespace Go.Proofs.Ytlpflmnijhfkfaa
open Go.RowKit

theorem tg_begin : beginE tgN [(1, 0)] [(1, 2)] [1] [] [1] = 0 := by decide
theorem tg_begun : beginI tgN [(1, 0)] 0 [1] = [0] := by decide
theorem tg_ready0 : readyE tgN [(1, 0)] [(1, 2)] [1] [] [0] [] = 0 := by decide
theorem tg_ready1 : readyE tgN [(1, 0)] [(1, 2)] [1] [] [1] [] = 0 := by decide
theorem tg_next : nextI tgN [(1, 2)] 0 [0] [] = [1] := by decide
theorem tg_holds : holdsI [] 0 (vals tgN [1] [] tgN.length) = true := by decide
theorem tg_bad : badI [1] 0 (vals tgN [1] [] tgN.length) = true := by decide
theorem nil_SL {w : World} : SL w (.slice none 0 0) [] := ⟨none, 0, rfl, fun h => by simp at h, by simp, by simp [maxLen]⟩

set_option maxRecDepth 100000 in
set_option maxHeartbeats 2000000 in
theorem evalBegun_any (w : World) : Calls Try.prog 37 #[] w fun e w' => e = .returned (.bool true) ∧ Below w.heap.size w w' := by
  go_enter Try.func37, Try.ntmps37
  go_wp2_with fail
  refine (toggle_any _).mono ?_
  rintro e t1 ⟨B0, B1, B2, B3, rfl, hN, hI, hX, hB, hb⟩
  have hal : Below t1.heap.size t1 (t1.alloc (.cells #[.int .i64 1] 3)) := bal (Below.refl _ _) _
  have hSL : SL (t1.alloc (.cells #[.int .i64 1] 3)) (.slice (some ⟨t1.heap.size, 0, none⟩) 1 1) [1] := ⟨some ⟨t1.heap.size, 0, none⟩, 1, rfl, fun _ => ⟨t1.heap.size, 0, rfl, fun j hj => by
    match j, hj with
    | 0, _ => simp [go_sem]⟩, by simp, by simp [maxLen]⟩
  have HC := hide (fun _ : Unit => begin_any (some ⟨B0, 0, none⟩) (some ⟨B1, 0, none⟩) (some ⟨B2, 0, none⟩) (some ⟨B3, 0, none⟩) none 3 1 1 1 0 tgN [(1, 0)] [(1, 2)] [1] [] (by simp [tgN]) (by simp) (by simp) (by simp [maxLen]) (by simp [maxLen]) [1] (by simp [maxLen]) (.slice (some ⟨t1.heap.size, 0, none⟩) 1 1) (t1.alloc (.cells #[.int .i64 1] 3)) (hN.later hal) (hI.later hal) (hX.later hal) (hB.later hal) (fun h => by simp at h) hSL)
  rw [tg_begin, tg_begun] at HC
  have HBt := hide (bthen hb hal)
  clear hN hI hX hB hb hal hSL
  go_wp2_with fail
  refine (HC.out ()).mono ?_
  rintro e w1 ⟨p1, k1, l1, rfl, hl1, hJ1, hb1⟩
  obtain rfl := hl1
  obtain ⟨b1, o1, rfl, hc1⟩ := hJ1 (by simp)
  have c11 := hc1 0 (by simp)
  have HB1 := hide (bthen HBt.out hb1)
  clear hc1 HC HBt hb1 hJ1
  go_wp2_with fail
  refine (toggle_any _).mono ?_
  rintro e t2 ⟨B0, B1, B2, B3, rfl, hN, hI, hX, hB, hb⟩
  have hal : Below t2.heap.size t2 (t2.alloc (.cells #[.int .i64 0] 3)) := bal (Below.refl _ _) _
  have hSL : SL (t2.alloc (.cells #[.int .i64 0] 3)) (.slice (some ⟨t2.heap.size, 0, none⟩) 1 1) [0] := ⟨some ⟨t2.heap.size, 0, none⟩, 1, rfl, fun _ => ⟨t2.heap.size, 0, rfl, fun j hj => by
    match j, hj with
    | 0, _ => simp [go_sem]⟩, by simp, by simp [maxLen]⟩
  have HC := hide (fun _ : Unit => step_any (some ⟨B0, 0, none⟩) (some ⟨B1, 0, none⟩) (some ⟨B2, 0, none⟩) (some ⟨B3, 0, none⟩) none 3 1 1 1 0 tgN [(1, 0)] [(1, 2)] [1] [] (by simp [tgN, maxLen]) (by simp) (by simp) (by simp [maxLen]) (by simp [maxLen]) [0] [] (by simp [maxLen]) (by simp [maxLen]) (.slice (some ⟨t2.heap.size, 0, none⟩) 1 1) (.slice none 0 0) (t2.alloc (.cells #[.int .i64 0] 3)) (hN.later hal) (hI.later hal) (hX.later hal) (hB.later hal) (fun h => by simp at h) hSL nil_SL)
  rw [tg_ready0, tg_next] at HC
  have HBt := hide (bthen (bthen HB1.out hb) hal)
  have c12 := cell_later (bthen hb hal) c11
  clear hN hI hX hB hb hal hSL
  go_wp2_with fail
  refine (HC.out ()).mono ?_
  rintro e w2 ⟨p2, k2, l2, rfl, hl2, hJ2, hb2⟩
  obtain rfl := hl2
  obtain ⟨b2, o2, rfl, hc2⟩ := hJ2 (by simp)
  have c22 := hc2 0 (by simp)
  have c12x := cell_later hb2 c12
  have HB2 := hide (bthen HBt.out hb2)
  clear hc2 HC HBt hb2 hJ2 c12
  have c12 := c12x
  clear c12x
  go_wp2_with fail
  refine (toggle_any _).mono ?_
  rintro e t3 ⟨B0, B1, B2, B3, rfl, hN, hI, hX, hB, hb⟩
  have hal : Below t3.heap.size t3 (t3.alloc (.cells #[.int .i64 1] 3)) := bal (Below.refl _ _) _
  have hSL : SL (t3.alloc (.cells #[.int .i64 1] 3)) (.slice (some ⟨t3.heap.size, 0, none⟩) 1 1) [1] := ⟨some ⟨t3.heap.size, 0, none⟩, 1, rfl, fun _ => ⟨t3.heap.size, 0, rfl, fun j hj => by
    match j, hj with
    | 0, _ => simp [go_sem]⟩, by simp, by simp [maxLen]⟩
  have HC := hide (fun _ : Unit => look_any (some ⟨B0, 0, none⟩) (some ⟨B1, 0, none⟩) (some ⟨B2, 0, none⟩) (some ⟨B3, 0, none⟩) none 3 1 1 1 0 tgN [(1, 0)] [(1, 2)] [1] [] (by simp [tgN, maxLen]) (by simp) (by simp) (by simp [maxLen]) (by simp [maxLen]) [1] [] (by simp [maxLen]) (by simp [maxLen]) (.slice (some ⟨t3.heap.size, 0, none⟩) 1 1) (.slice none 0 0) (t3.alloc (.cells #[.int .i64 1] 3)) (hN.later hal) (hI.later hal) (hX.later hal) (hB.later hal) (fun h => by simp at h) hSL nil_SL)
  rw [tg_ready1, tg_holds, tg_bad] at HC
  have HBt := hide (bthen (bthen HB2.out hb) hal)
  have c13 := cell_later (bthen hb hal) c12
  have c23 := cell_later (bthen hb hal) c22
  clear hN hI hX hB hb hal hSL
  go_wp2_with fail
  refine (HC.out ()).mono ?_
  rintro e w3 ⟨rfl, hb3⟩
  have d1 := cell_later hb3 c13
  have d2 := cell_later hb3 c23
  have HB3 := hide (bthen HBt.out hb3)
  simp at d1 d2
  clear hb3 HC HBt c11 c12 c13 c22 c23
  go_wp2
  go_ret
  exact ⟨rfl, HB3.out⟩

end Go.Proofs.Ytlpflmnijhfkfaa
