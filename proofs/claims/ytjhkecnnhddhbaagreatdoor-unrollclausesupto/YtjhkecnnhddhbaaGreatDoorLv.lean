/- Solve, of what is found by a short run: the walk. -/
import Derived.Test.YtjhkecnnhddhbaaGreatDoorLu
import Derived.Laws.ResultCell
namespace Go.Proofs.YtjhkecnnhddhbaaGreatDoor.Sr
open Go.RowKit Go.Maps Go.Proofs.YtjhkecnnhddhbaaGreatDoor.Pf
set_option maxRecDepth 100000
set_option autoImplicit false

theorem row_bools {w : World} {g : Nat} {l : List Bool} (h : w.heap[g]? = some (.cells (l.map Value.bool).toArray 4 (0, 0))) : BoolsAt w (some ⟨g, 0, none⟩) l := fun _ => ⟨g, 0, rfl, fun i hi => by
  rw [Lib.cell_of_heap h, List.getElem?_toArray, List.getElem?_map, Nat.zero_add, List.getElem?_eq_getElem hi]
  rfl⟩
/-- What Solve leaves. -/
def SoOut (w : World) (Sf : Sx) (e : Ending) (w' : World) : Prop := ∃ g, e = .returned (.tuple #[.agg #[.int .i64 1, .slice (some ⟨g, 0, none⟩) Sf.V Sf.V, .slice none 0 0], .int .i64 0]) ∧ BoolsAt w' (some ⟨g, 0, none⟩) (valN Sf.B Sf.V Sf.V) ∧ Below w.heap.size w w'
set_option maxHeartbeats 8000000 in
theorem solve_s (V : Nat) (hV : V ≤ 14) (p : Option Addr) (cap : Nat) (rs : List Row) (hl : rs.length ≤ 800000) (hx : ∀ r ∈ rs, r.ns.length ≤ 200 ∧ ∀ x ∈ r.ns, Num V x) (hck : chkC V (numsOf rs) = 0) (fuel : Int) (hf : 0 ≤ fuel ∧ fuel ≤ 1000000) (Sf : Sx) (k : Nat) (hk : k ≤ 1000)
    (hrun : ∀ B, Inv V (numsOf rs) (fun _ => False) B → B.level = 0 → (∃ g f, spreadN g (addAll (numsOf rs)) = some (B, f)) → ∃ n, Run V n k true (numsOf rs) (fun _ => False) (newSx V B (fuel * 100)) Sf) (w : World) (hC : ClAt w p rs) :
    Calls Tryz.prog 129 #[cval V p rs.length cap, .int .i64 fuel] w (SoOut w Sf) := by
  have hb0 : Below w.heap.size w ((w.alloc (.cells #[.int .i64 V, .slice p rs.length cap] 30)).alloc (.cells #[.int .i64 0, .slice none 0 0, .slice none 0 0] 160)) := bal (bal (Below.refl _ _) _) _
  have HB0 := hide hb0
  have HCK := hide (checkC_any (V : Int) p cap rs (by omega) (fun r hr => by have := (hx r hr).1; unfold maxLen; omega) ((w.alloc (.cells #[.int .i64 V, .slice p rs.length cap] 30)).alloc (.cells #[.int .i64 0, .slice none 0 0, .slice none 0 0] 160)) (hC.later hb0))
  rw [hck] at HCK
  have HX := hide hx
  have HC := hide hC
  have HR := hide hrun
  have x0 : ((w.alloc (.cells #[.int .i64 V, .slice p rs.length cap] 30)).alloc (.cells #[.int .i64 0, .slice none 0 0, .slice none 0 0] 160)).cell? ⟨w.heap.size, 0, none⟩ = some (.int .i64 V) := by simp [go_sem]
  have x1 : ((w.alloc (.cells #[.int .i64 V, .slice p rs.length cap] 30)).alloc (.cells #[.int .i64 0, .slice none 0 0, .slice none 0 0] 160)).cell? ⟨w.heap.size, 1, none⟩ = some (.slice p rs.length cap) := by simp [go_sem]
  have HG : Hid (((w.alloc (.cells #[.int .i64 V, .slice p rs.length cap] 30)).alloc (.cells #[.int .i64 0, .slice none 0 0, .slice none 0 0] 160)).heap[w.heap.size + 1]? = some (.cells #[.int .i64 0, .slice none 0 0, .slice none 0 0] 160)) := by
    have := (MapKept.heap_alloc (w.alloc (.cells #[.int .i64 V, .slice p rs.length cap] 30)) (.cells #[.int .i64 0, .slice none 0 0, .slice none 0 0] 160)).1
    rw [World.size_alloc] at this
    exact this
  have hfl : decide (fuel < 0) = false := by simp; omega
  have hfg : decide (1000000 < fuel) = false := by simp; omega
  clear hx hC hrun hb0 hck
  unfold cval at *
  go_enter Tryz.func129, Tryz.ntmps129
  go_wp2_with fail
  generalize (w.alloc (.cells #[.int .i64 V, .slice p rs.length cap] 30)).alloc (.cells #[.int .i64 0, .slice none 0 0, .slice none 0 0] 160) = w1 at *
  refine HCK.out.mono ?_
  rintro e w2 ⟨rfl, hb2⟩
  have y0 := cell_later hb2 x0
  have y1 := cell_later hb2 x1
  have HG2 : Hid (w2.heap[w.heap.size + 1]? = some (.cells #[.int .i64 0, .slice none 0 0, .slice none 0 0] 160)) := (hb2.block _ (Array.getElem?_eq_some_iff.1 HG.out).1).trans HG.out
  have HB2 := hide (bthen HB0.out hb2)
  have HNS := hide (newS_any V (by omega) p cap rs hl HX.out fuel ⟨by omega, by omega⟩ w2 (HC.out.later HB2.out))
  unfold cval at HNS
  clear hb2 x0 x1 HCK HG HB0
  generalize hG : w.heap.size + 1 = G at *
  go_wp2_with fail
  refine HNS.out.mono ?_
  rintro e w3 ⟨⟨s, R, nS, nW, q, gp, gw, gm, gl, vh, B, XB, XQ, rfl, hser, hinv, ⟨hlv, hsp⟩, -, -, hnS, hnW⟩, hb3⟩
  obtain ⟨n, hR⟩ := HR.out B hinv hlv hsp
  have HRN := hide (run_s w2.heap.size w3 s XB XQ R nS nW q gp gw gm gl vh _ _ Sf hser V n k _ hR (by omega) (by omega))
  have hG2 : G < w2.heap.size := (Array.getElem?_eq_some_iff.1 HG2.out).1
  have HG3 : Hid (w3.heap[G]? = some (.cells #[.int .i64 0, .slice none 0 0, .slice none 0 0] 160)) := (hb3.block G hG2).trans HG2.out
  have HB3 := hide hb3
  clear hser hinv hlv hsp hb3 HNS HG2 y0 y1 hR
  go_wp2_with fail
  refine HRN.out.mono ?_
  rintro e w4 ⟨g, rfl, hg, hgb, hb4⟩
  have HG4 : Hid (w4.heap[G]? = some (.cells #[.int .i64 0, .slice none 0 0, .slice none 0 0] 160)) := (hb4.block G hG2).trans HG3.out
  have HB4 := hide (bthen HB2.out (HB3.out.trans hb4))
  have hne : g ≠ G := by omega
  have q0 : w4.cell? ⟨G, 0, none⟩ = some (.int .i64 0) := by rw [Lib.cell_of_heap HG4.out]; rfl
  have q1 : w4.cell? ⟨G, 1, none⟩ = some (.slice none 0 0) := by rw [Lib.cell_of_heap HG4.out]; rfl
  have q2 : w4.cell? ⟨G, 2, none⟩ = some (.slice none 0 0) := by rw [Lib.cell_of_heap HG4.out]; rfl
  have z0 : w4.frozen? ⟨G, 0, none⟩ = false := Lib.frozen_of_heap HG4.out 0
  have z1 : w4.frozen? ⟨G, 1, none⟩ = false := Lib.frozen_of_heap HG4.out 1
  have z2 : w4.frozen? ⟨G, 2, none⟩ = false := Lib.frozen_of_heap HG4.out 2
  have HGZ : Hid ((((w4.setCell ⟨G, 0, none⟩ (.int .i64 1)).setCell ⟨G, 1, none⟩ (.slice (some ⟨g, 0, none⟩) Sf.V Sf.V)).setCell ⟨G, 2, none⟩ (.slice none 0 0)).heap[G]? = some (.cells #[.int .i64 1, .slice (some ⟨g, 0, none⟩) Sf.V Sf.V, .slice none 0 0] 160)) := by
    unfold Hid
    rw [heap_setCell_same _ _ _ _ _ _ (heap_setCell_same _ _ _ _ _ _ (heap_setCell_same _ _ _ _ _ _ HG4.out))]
    rfl
  have HGW : Hid (BoolsAt (((w4.setCell ⟨G, 0, none⟩ (.int .i64 1)).setCell ⟨G, 1, none⟩ (.slice (some ⟨g, 0, none⟩) Sf.V Sf.V)).setCell ⟨G, 2, none⟩ (.slice none 0 0)) (some ⟨g, 0, none⟩) (valN Sf.B Sf.V Sf.V)) := by
    refine row_bools ?_
    rw [heap_setCell_other _ _ _ _ (show g ≠ G from hne), heap_setCell_other _ _ _ _ (show g ≠ G from hne), heap_setCell_other _ _ _ _ (show g ≠ G from hne)]
    exact hg
  have HBZ : Hid (Below w.heap.size w (((w4.setCell ⟨G, 0, none⟩ (.int .i64 1)).setCell ⟨G, 1, none⟩ (.slice (some ⟨g, 0, none⟩) Sf.V Sf.V)).setCell ⟨G, 2, none⟩ (.slice none 0 0))) := ((HB4.out.setCell (p := ⟨G, 0, none⟩) (show w.heap.size ≤ G by omega) _).setCell (p := ⟨G, 1, none⟩) (show w.heap.size ≤ G by omega) _).setCell (p := ⟨G, 2, none⟩) (show w.heap.size ≤ G by omega) _
  clear hg hgb hb4 HRN HG3 HG4 HB2 HB3 HB4
  go_wp2
  try simp only [Exit.inBlock, Exit.then]
  refine bodyPost_ret ((results_cell_tmp rfl _ _ _).trans (?_ : _ = Result.ok (.tuple #[.agg #[.int .i64 1, .slice (some ⟨g, 0, none⟩) Sf.V Sf.V, .slice none 0 0], .int .i64 0]) _)) rfl ⟨g, rfl, HGW.out, HBZ.out⟩
  have hld := run_loadVar_row (P := Tryz.prog) _ G 160 160 _ _ _ HGZ.out Tryz.underlying160 rfl (by kernel_rfl)
  generalize ((w4.setCell ⟨G, 0, none⟩ (.int .i64 1)).setCell ⟨G, 1, none⟩ (.slice (some ⟨g, 0, none⟩) Sf.V Sf.V)).setCell ⟨G, 2, none⟩ (.slice none 0 0) = w5 at *
  simp [asAddr, hld, Result.andThen]
end Go.Proofs.YtjhkecnnhddhbaaGreatDoor.Sr
