/- Solve, of clauses that are lost from the first: the walks. -/
import Derived.Test.YtjhkecnnhddhbaaGreatDoorLv
namespace Go.Proofs.YtjhkecnnhddhbaaGreatDoor.Sr
open Go.RowKit Go.Maps Go.Proofs.YtjhkecnnhddhbaaGreatDoor.Pf
set_option maxRecDepth 100000
set_option autoImplicit false

set_option maxHeartbeats 4000000 in
/-- A proof that has room. -/
theorem refused_few (s : Nat) (pl pp : Option Addr) (n m cl pc : Nat) (hr : n + m ≤ 800000) (w : World) (h3 : w.cell? ⟨s, 3, none⟩ = some (.slice pl n cl)) :
    Calls Tryz.prog 183 #[.pointer (some ⟨s, 0, none⟩), .slice pp m pc] w fun e w' => e = .returned (.agg #[.int .i64 2, .slice none 0 0, .slice pp m pc]) ∧ Below w.heap.size w w' := by
  have hb1 : Below w.heap.size w (w.alloc (.cells #[.int .i64 0, .slice none 0 0, .slice none 0 0] 160)) := bal (Below.refl _ _) _
  have y3 := cell_later hb1 h3
  have ww := wrap_in (800000 - (n : Int)) (by omega) (by omega)
  have hfit : decide ((m : Int) ≤ 800000 - (n : Int)) = true := by simp; omega
  clear hb1 h3
  go_enter Tryz.func183, Tryz.ntmps183
  go_wp2
  try simp only [Exit.inBlock, Exit.then]
  refine bodyPost_ret (results_cell_row rfl _ _ w.heap.size 160 _ _ _ rfl (MapKept.heap_alloc w _).1 Tryz.underlying160 rfl (by kernel_rfl)) rfl ?_
  exact ⟨rfl, bal (Below.refl _ _) _⟩
/-- What run leaves of a board that is lost. -/
def RnNo (w : World) (base : Nat) (e : Ending) (w' : World) : Prop := ∃ p c, e = .returned (.agg #[.int .i64 2, .slice none 0 0, .slice p 1 c]) ∧ Below base w w'
set_option maxHeartbeats 4000000 in
theorem run_lost (base : Nat) (w : World) (s : Nat) (XB XQ : Nat → Prop) (R nS nW q gp gw gm gl : Nat) (vh : Value) (pl : Option Addr) (n cl : Nat) (S : Sx) (h : Ser base w s XB XQ R nS nW q gp gw gm gl vh (.slice pl n cl) (.slice none 0 0) S) (hlo : S.B.lost = true) (hn : n + 1 ≤ 800000) :
    Calls Tryz.prog 159 #[.pointer (some ⟨s, 0, none⟩)] w (RnNo w base) := by
  have hbs : base ≤ w.heap.size := by have := h.sx; have := h.ss.1; omega
  have hb1 : Below w.heap.size w (w.alloc (.cells #[.int .i64 0, .slice none 0 0, .slice none 0 0] 160)) := bal (Below.refl _ _) _
  have HS := hide (h.later hb1)
  have HG : Hid ((w.alloc (.cells #[.int .i64 0, .slice none 0 0, .slice none 0 0] 160)).heap[w.heap.size]? = some (.cells #[.int .i64 0, .slice none 0 0, .slice none 0 0] 160)) := (MapKept.heap_alloc w _).1
  have HB1 := hide (hb1.mono hbs)
  have hGs : w.heap.size < (w.alloc (.cells #[.int .i64 0, .slice none 0 0, .slice none 0 0] 160)).heap.size := by simp
  clear h hb1
  go_enter Tryz.func159, Tryz.ntmps159
  go_wp2_with fail
  generalize w.alloc (.cells #[.int .i64 0, .slice none 0 0, .slice none 0 0] 160) = w1 at *
  generalize w.heap.size = G at *
  obtain ⟨vp1, w2, hr2, ho2, hold2, hsz2, o2, t2, u2, ⟨p2, k2, c2, hv2⟩⟩ := own_append22 (row_nil w1 0 25 1) none 0 0 (by decide) 28
  have hb2 : Below w1.heap.size w1 w2 := ⟨o2, t2, u2, hsz2, fun g hg => hold2 g hg fun e => by cases e⟩
  have hk2 : k2 = 1 := by
    rcases ho2.2 with ⟨e, h0⟩ | ⟨g, cap, cur, e, _⟩
    · simp at h0
    · rw [hv2] at e
      simp at e
      omega
  subst hk2
  subst hv2
  have s0 := HS.out.s0
  have c3 := BdAt.lo HS.out.bd
  rw [hlo] at c3
  have s5 := HS.out.s5
  have HS2 := hide (HS.out.later hb2)
  have HRF := hide (refused_few s pl p2 n 1 cl c2 hn w2 HS2.out.s3)
  have HG2 : Hid (w2.heap[G]? = some (.cells #[.int .i64 0, .slice none 0 0, .slice none 0 0] 160)) := (hb2.block G hGs).trans HG.out
  have hb12 : base ≤ w1.heap.size := by omega
  have HB2 := hide (HB1.out.trans (hb2.mono hb12))
  have hG2 : G < w2.heap.size := Nat.lt_of_lt_of_le hGs hb2.size
  clear ho2 hold2 hsz2 o2 t2 u2 hb2 HS HG HB1
  go_loopg [] 0 (fun _ wr => wr = w1)
  case atStart => rfl
  case round =>
    subst hrel
    go_wp2_with (at_builtin; refine Lib.wpList_append_run _ rfl _ _ _ _ rfl _ _ rfl rfl _ _ hr2 ?_)
    refine HRF.out.mono ?_
    rintro e w3 ⟨rfl, hb3⟩
    have HG3 : Hid (w3.heap[G]? = some (.cells #[.int .i64 0, .slice none 0 0, .slice none 0 0] 160)) := (hb3.block G hG2).trans HG2.out
    have HB3 := hide (HB2.out.trans (hb3.mono (by omega)))
    have q0 : w3.cell? ⟨G, 0, none⟩ = some (.int .i64 0) := by rw [Lib.cell_of_heap HG3.out]; rfl
    have q1 : w3.cell? ⟨G, 1, none⟩ = some (.slice none 0 0) := by rw [Lib.cell_of_heap HG3.out]; rfl
    have q2 : w3.cell? ⟨G, 2, none⟩ = some (.slice none 0 0) := by rw [Lib.cell_of_heap HG3.out]; rfl
    have z0 : w3.frozen? ⟨G, 0, none⟩ = false := Lib.frozen_of_heap HG3.out 0
    have z1 : w3.frozen? ⟨G, 1, none⟩ = false := Lib.frozen_of_heap HG3.out 1
    have z2 : w3.frozen? ⟨G, 2, none⟩ = false := Lib.frozen_of_heap HG3.out 2
    have HGZ : Hid ((((w3.setCell ⟨G, 0, none⟩ (.int .i64 2)).setCell ⟨G, 1, none⟩ (.slice none 0 0)).setCell ⟨G, 2, none⟩ (.slice p2 1 c2)).heap[G]? = some (.cells #[.int .i64 2, .slice none 0 0, .slice p2 1 c2] 160)) := by
      unfold Hid
      rw [heap_setCell_same _ _ _ _ _ _ (heap_setCell_same _ _ _ _ _ _ (heap_setCell_same _ _ _ _ _ _ HG3.out))]
      rfl
    have HBZ : Hid (Below base w (((w3.setCell ⟨G, 0, none⟩ (.int .i64 2)).setCell ⟨G, 1, none⟩ (.slice none 0 0)).setCell ⟨G, 2, none⟩ (.slice p2 1 c2))) := ((HB3.out.setCell (p := ⟨G, 0, none⟩) hbs _).setCell (p := ⟨G, 1, none⟩) hbs _).setCell (p := ⟨G, 2, none⟩) hbs _
    clear hb3 HG3 HB3
    go_wp2
    try simp only [Exit.inBlock, Exit.then]
    refine bodyPost_ret (results_cell_row rfl _ _ G 160 _ _ _ rfl HGZ.out Tryz.underlying160 rfl (by kernel_rfl)) rfl ?_
    exact ⟨p2, c2, rfl, HBZ.out⟩
/-- What Solve leaves of clauses that are lost from the first. -/
def SoNo (w : World) (e : Ending) (w' : World) : Prop := ∃ p c, e = .returned (.tuple #[.agg #[.int .i64 2, .slice none 0 0, .slice p 1 c], .int .i64 0]) ∧ Below w.heap.size w w'
set_option maxHeartbeats 8000000 in
theorem solve_lost (V : Nat) (hV : V ≤ 14) (p : Option Addr) (cap : Nat) (rs : List Row) (hl : rs.length + 1 ≤ 800000) (hx : ∀ r ∈ rs, r.ns.length ≤ 200 ∧ ∀ x ∈ r.ns, Num V x) (hck : chkC V (numsOf rs) = 0) (fuel : Int) (hf : 0 ≤ fuel ∧ fuel ≤ 1000000) 
    (hrun : ∀ B, Inv V (numsOf rs) (fun _ => False) B → (∃ g f, spreadN g (addAll (numsOf rs)) = some (B, f)) → B.lost = true) (w : World) (hC : ClAt w p rs) :
    Calls Tryz.prog 129 #[cval V p rs.length cap, .int .i64 fuel] w (SoNo w) := by
  have hb0 : Below w.heap.size w ((w.alloc (.cells #[.int .i64 V, .slice p rs.length cap] 30)).alloc (.cells #[.int .i64 0, .slice none 0 0, .slice none 0 0] 160)) := bal (bal (Below.refl _ _) _) _
  have HB0 := hide hb0
  have HCK := hide (checkC_any (V : Int) p cap rs (by omega) (fun r hr => by have := (hx r hr).1; unfold maxLen; omega) ((w.alloc (.cells #[.int .i64 V, .slice p rs.length cap] 30)).alloc (.cells #[.int .i64 0, .slice none 0 0, .slice none 0 0] 160)) (hC.later hb0))
  rw [hck] at HCK
  have HX := hide hx
  have HC := hide hC
  have HR := hide hrun
  have x0 : ((w.alloc (.cells #[.int .i64 V, .slice p rs.length cap] 30)).alloc (.cells #[.int .i64 0, .slice none 0 0, .slice none 0 0] 160)).cell? ⟨w.heap.size, 0, none⟩ = some (.int .i64 V) := by simp [go_sem]
  have x1 : ((w.alloc (.cells #[.int .i64 V, .slice p rs.length cap] 30)).alloc (.cells #[.int .i64 0, .slice none 0 0, .slice none 0 0] 160)).cell? ⟨w.heap.size, 1, none⟩ = some (.slice p rs.length cap) := by simp [go_sem]
  have HG : Hid (((w.alloc (.cells #[.int .i64 V, .slice p rs.length cap] 30)).alloc (.cells #[.int .i64 0, .slice none 0 0, .slice none 0 0] 160)).heap[w.heap.size + 1]? = some (.cells #[.int .i64 0, .slice none 0 0, .slice none 0 0] 160)) := by
    have := (MapKept.heap_alloc (w.alloc (.cells #[.int .i64 V, .slice p rs.length cap] 30)) (.cells #[.int .i64 0, .slice none 0 0, .slice none 0 0] 160)).1
    rw [World.size_alloc] at this
    exact this
  have hfl : decide (fuel < 0) = false := by simp; omega
  have hfg : decide (1000000 < fuel) = false := by simp; omega
  clear hx hC hrun hb0 hck
  unfold cval at *
  go_enter Tryz.func129, Tryz.ntmps129
  go_wp2_with fail
  generalize (w.alloc (.cells #[.int .i64 V, .slice p rs.length cap] 30)).alloc (.cells #[.int .i64 0, .slice none 0 0, .slice none 0 0] 160) = w1 at *
  refine HCK.out.mono ?_
  rintro e w2 ⟨rfl, hb2⟩
  have y0 := cell_later hb2 x0
  have y1 := cell_later hb2 x1
  have HG2 : Hid (w2.heap[w.heap.size + 1]? = some (.cells #[.int .i64 0, .slice none 0 0, .slice none 0 0] 160)) := (hb2.block _ (Array.getElem?_eq_some_iff.1 HG.out).1).trans HG.out
  have HB2 := hide (bthen HB0.out hb2)
  have HNS := hide (newS_any V (by omega) p cap rs (by omega) HX.out fuel ⟨by omega, by omega⟩ w2 (HC.out.later HB2.out))
  unfold cval at HNS
  clear hb2 x0 x1 HCK HG HB0
  generalize hG : w.heap.size + 1 = G at *
  go_wp2_with fail
  refine HNS.out.mono ?_
  rintro e w3 ⟨⟨s, R, nS, nW, q, gp, gw, gm, gl, vh, B, XB, XQ, rfl, hser, hinv, ⟨hlv, hsp⟩, -, -, hnS, hnW⟩, hb3⟩
  have hR := HR.out B hinv hsp
  have HRN := hide (run_lost w2.heap.size w3 s XB XQ R nS nW q gp gw gm gl vh _ _ _ _ hser hR hl)
  have hG2 : G < w2.heap.size := (Array.getElem?_eq_some_iff.1 HG2.out).1
  have HG3 : Hid (w3.heap[G]? = some (.cells #[.int .i64 0, .slice none 0 0, .slice none 0 0] 160)) := (hb3.block G hG2).trans HG2.out
  have HB3 := hide hb3
  clear hser hinv hlv hsp hb3 HNS HG2 y0 y1 hR
  go_wp2_with fail
  refine HRN.out.mono ?_
  rintro e w4 ⟨pp, pc, rfl, hb4⟩
  have HG4 : Hid (w4.heap[G]? = some (.cells #[.int .i64 0, .slice none 0 0, .slice none 0 0] 160)) := (hb4.block G hG2).trans HG3.out
  have HB4 := hide (bthen HB2.out (HB3.out.trans hb4))
  have q0 : w4.cell? ⟨G, 0, none⟩ = some (.int .i64 0) := by rw [Lib.cell_of_heap HG4.out]; rfl
  have q1 : w4.cell? ⟨G, 1, none⟩ = some (.slice none 0 0) := by rw [Lib.cell_of_heap HG4.out]; rfl
  have q2 : w4.cell? ⟨G, 2, none⟩ = some (.slice none 0 0) := by rw [Lib.cell_of_heap HG4.out]; rfl
  have z0 : w4.frozen? ⟨G, 0, none⟩ = false := Lib.frozen_of_heap HG4.out 0
  have z1 : w4.frozen? ⟨G, 1, none⟩ = false := Lib.frozen_of_heap HG4.out 1
  have z2 : w4.frozen? ⟨G, 2, none⟩ = false := Lib.frozen_of_heap HG4.out 2
  have HGZ : Hid ((((w4.setCell ⟨G, 0, none⟩ (.int .i64 2)).setCell ⟨G, 1, none⟩ (.slice none 0 0)).setCell ⟨G, 2, none⟩ (.slice pp 1 pc)).heap[G]? = some (.cells #[.int .i64 2, .slice none 0 0, .slice pp 1 pc] 160)) := by
    unfold Hid
    rw [heap_setCell_same _ _ _ _ _ _ (heap_setCell_same _ _ _ _ _ _ (heap_setCell_same _ _ _ _ _ _ HG4.out))]
    rfl
  have HBZ : Hid (Below w.heap.size w (((w4.setCell ⟨G, 0, none⟩ (.int .i64 2)).setCell ⟨G, 1, none⟩ (.slice none 0 0)).setCell ⟨G, 2, none⟩ (.slice pp 1 pc))) := ((HB4.out.setCell (p := ⟨G, 0, none⟩) (show w.heap.size ≤ G by omega) _).setCell (p := ⟨G, 1, none⟩) (show w.heap.size ≤ G by omega) _).setCell (p := ⟨G, 2, none⟩) (show w.heap.size ≤ G by omega) _
  clear hb4 HRN HG3 HG4 HB2 HB3 HB4
  go_wp2
  try simp only [Exit.inBlock, Exit.then]
  refine bodyPost_ret ((results_cell_tmp rfl _ _ _).trans (?_ : _ = Result.ok (.tuple #[.agg #[.int .i64 2, .slice none 0 0, .slice pp 1 pc], .int .i64 0]) _)) rfl ⟨pp, pc, rfl, HBZ.out⟩
  have hld := run_loadVar_row (P := Tryz.prog) _ G 160 160 _ _ _ HGZ.out Tryz.underlying160 rfl (by kernel_rfl)
  generalize ((w4.setCell ⟨G, 0, none⟩ (.int .i64 2)).setCell ⟨G, 1, none⟩ (.slice none 0 0)).setCell ⟨G, 2, none⟩ (.slice pp 1 pc) = w5 at *
  simp [asAddr, hld, Result.andThen]
end Go.Proofs.YtjhkecnnhddhbaaGreatDoor.Sr
