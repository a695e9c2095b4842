import Derived.Test.YtabnimgpednhjabGreatBp
namespace Go.Proofs.YtabnimgpednhjabGreat
open Go.RowKit Go.Maps
set_option maxRecDepth 100000
theorem tg_cir : Gg.cirE 1 [] 0 1 [0] [3] [2] [] = 0 := by decide
set_option maxHeartbeats 4000000 in
theorem begunB_any (w : World) : Calls Tryz.prog 5 #[] w fun e w' => e = .returned (.bool true) ∧ Below w.heap.size w w' := by
 go_enter Tryz.func5, Tryz.ntmps5
 go_wp2_with fail
 refine (toggle_any w).mono ?_
 rintro e w1 ⟨B0, B1, B2, B3, rfl, hN, hI, hX, hB, hb1⟩
 have HBL := hide (blastT_any B0 B1 B2 B3 w1 ⟨hN, hI, hX, hB⟩)
 have HB1 := hide hb1
 clear hN hI hX hB hb1
 go_wp2_with fail
 refine HBL.out.mono ?_
 rintro e w2 ⟨pv, cv, pi, ci, pn, cn, pb, cb, rfl, h1, h2, h3, hb2⟩
 have HB2 := hide (bthen HB1.out hb2)
 have hbA : Below w2.heap.size w2 (w2.alloc (.cells (Gg.circC 1 pv 0 cv 0 1 ⟨pi, [0], ci⟩ ⟨pn, [3], cn⟩ ⟨pb, [2], cb⟩ ⟨none, [], 0⟩) 27)) := bal (Below.refl _ _) _
 have HCK := hide (Gg.checkB_any 1 pv cv [] (fun i h => by simp at h) (by simp) 0 1 (by constructor <;> decide) (by constructor <;> decide) ⟨pi, [0], ci⟩ ⟨pn, [3], cn⟩ ⟨pb, [2], cb⟩ ⟨none, [], 0⟩ (by simp [maxLen]) (by simp [maxLen]) (by simp [maxLen]) (by simp [maxLen]) _ ⟨fun h => by simp at h, h1.later hbA, h2.later hbA, h3.later hbA, fun h => by simp at h⟩)
 rw [tg_cir] at HCK
 have HBA := hide (bthen HB2.out hbA)
 have H1 := hide (h1.later hbA)
 have H2 := hide (h2.later hbA)
 clear h1 h2 h3 hb2 hbA HBL HB1
 go_wp2_with fail
 refine HCK.out.mono ?_
 rintro e w3 ⟨rfl, hb3⟩
 have q2 := cell_later hb3 (a := ⟨w2.heap.size, 2, none⟩) (v := .int .i64 0) (by simp [go_sem])
 have q3 := cell_later hb3 (a := ⟨w2.heap.size, 3, none⟩) (v := .int .i64 1) (by simp [go_sem])
 have q4 := cell_later hb3 (a := ⟨w2.heap.size, 4, none⟩) (v := .slice pi 1 ci) (by simp [go_sem])
 have q5 := cell_later hb3 (a := ⟨w2.heap.size, 5, none⟩) (v := .slice pn 1 cn) (by simp [go_sem])
 obtain ⟨bi, oi, rfl, hci⟩ := (H1.out.later hb3) (by simp)
 obtain ⟨bn, on, rfl, hcn⟩ := (H2.out.later hb3) (by simp)
 have d0 : w3.cell? ⟨bi, oi, none⟩ = some (.int .i64 0) := by simpa using hci 0 (by simp)
 have d1 : w3.cell? ⟨bn, on, none⟩ = some (.int .i64 3) := by simpa using hcn 0 (by simp)
 have HB3 := hide (bthen HBA.out hb3)
 clear hci hcn hb3 HCK H1 H2
 go_wp2
 go_ret
 exact ⟨rfl, HB3.out⟩
end Go.Proofs.YtabnimgpednhjabGreat
