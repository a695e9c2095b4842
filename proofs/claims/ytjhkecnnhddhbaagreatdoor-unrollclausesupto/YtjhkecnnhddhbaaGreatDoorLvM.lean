/- A lesson is made: the walk. -/
import Derived.Test.YtjhkecnnhddhbaaGreatDoorLpM
import Derived.Laws.ResultCell
import Derived.Deep.LoopGhost
import Derived.Laws.Rows
namespace Go.Proofs.YtjhkecnnhddhbaaGreatDoor.Sr
open Go.RowKit Go.Maps Go.Proofs.YtjhkecnnhddhbaaGreatDoor.Pf
set_option maxRecDepth 100000
section
variable {base : Nat} {w : World} {s : Nat} {XB XQ : Nat → Prop} {R nS nW q gp gw gm gl : Nat} {vh vl vp : Value} {S : Sx}
theorem Ser.free (h : Ser base w s XB XQ R nS nW q gp gw gm gl vh vl vp S) {g : Nat} (hg : w.heap.size ≤ g) : Free base s XB XQ gm gl g := by
 obtain ⟨h1, h2, h3⟩ := h.ss
 have h4 := h.sx
 exact ⟨fun e => by have := BdAt.xb h.bd g e; omega, fun e => by have := h.qu.xb g e; omega, by omega, by omega, by omega, by omega⟩
end
end Go.Proofs.YtjhkecnnhddhbaaGreatDoor.Sr

namespace Go.Proofs.YtjhkecnnhddhbaaGreatDoor.Sr
open Go.RowKit Go.Maps Go.Proofs.YtjhkecnnhddhbaaGreatDoor.Pf
set_option maxRecDepth 100000
theorem info38 : (Tryz.prog.info? 25).map (fun i => (i.zero, i.size, i.bytes)) = some (some (.slice none 0 0), 1, 24) := by kernel_rfl
theorem own_append22 {w : World} {vp : Value} {n : Nat} {xs : List Value} (h : w.ownsRow 0 25 1 vp n xs) (p : Option Addr) (k c : Nat) (hl : n < 1000000) (ty : TypeId) :
   ∃ vp' w', (Builtin.append_ #[28, 28] ty #[vp, .slice (some ⟨w.heap.size, 0, none⟩) 1 1]).run Tryz.prog (w.alloc (.cells #[.slice p k c] 25)) = .ok vp' w' ∧ w'.ownsRow 0 25 1 vp' (n + 1) (xs ++ [.slice p k c]) ∧ (∀ g, g < w.heap.size → vp.ownBlock ≠ some g → w'.heap[g]? = w.heap[g]?) ∧ w.heap.size ≤ w'.heap.size ∧ w'.os = w.os ∧ w'.tape = w.tape ∧ w'.output = w.output ∧ ∃ p' k' c', vp' = .slice p' k' c' := by
 obtain ⟨i0, hi, hz0, hz1, hz2⟩ := info_parts info38
 have hal : Below w.heap.size w (w.alloc (.cells #[.slice p k c] 25)) := bal (Below.refl _ _) _
 obtain ⟨vp', w', hr, ho, hg, _⟩ := run_append_own (P := Tryz.prog) (w := w.alloc (.cells #[.slice p k c] 25)) 0 28 ty 25 i0 (.slice none 0 0) 1 24 Tryz.underlying28 hi hz0 hz1 hz2 rfl (by decide) vp n _ (h.alloc (.cells #[.slice p k c] 25)) ⟨w.heap.size, 0, none⟩ 1 1 [.slice p k c] rfl (one_newI _ w 25) (fun u hu => by simp at hu; subst hu; rfl) (by unfold maxLen; omega) (by omega) (Nat.zero_le _)
 have hsz := hg.size
 rw [World.size_alloc] at hsz
 refine ⟨vp', w', hr, ho, fun g hk hne => (hg.block g (by rw [World.size_alloc]; omega) (fun e => hne e.symm)).trans (hal.block g hk), by omega, hg.os, hg.tape, hg.output, ?_⟩
 rcases ho.2 with ⟨e, _⟩ | ⟨g, cap, cur, e, _⟩
 · exact ⟨_, _, _, e⟩
 · exact ⟨_, _, _, e⟩
end Go.Proofs.YtjhkecnnhddhbaaGreatDoor.Sr

namespace Go.Proofs.YtjhkecnnhddhbaaGreatDoor.Sr
open Go.RowKit Go.Maps Go.Proofs.YtjhkecnnhddhbaaGreatDoor.Pf
set_option maxRecDepth 100000
structure ChOk (n : Nat) (S : Sx) : Prop where
 q : QOk n S.Q
 nn : n ≤ 200000
 ln : S.lean.length = n
 sp : S.B.sp.length ≤ 1000000
 lv : 0 ≤ S.B.level ∧ S.B.level ≤ 1000000
structure SpOk (V : Int) (L : List (List Int)) (ch : Int → Prop) (S : Sx) : Prop where
 inv : Inv V L ch S.B
 lost : S.B.lost = false
 vv : V ≤ 200000
 cl : S.B.cl.length ≤ 800000
 few : S.V ≤ 14
def Run (V : Int) (n : Nat) (k : Nat) (_b : Bool) (L : List (List Int)) (ch : Int → Prop) (S S' : Sx) : Prop := k = 0 ∧ ∃ B' g, SpOk V L ch S ∧ spreadN g S.B = some (B', -1) ∧ ChOk n { S with B := B' } ∧ Sx.choose { S with B := B' } = (S', false) ∧ S'.V ≤ 14
theorem Run.ends {V : Int} {n : Nat} {b : Bool} {L : List (List Int)} {ch : Int → Prop} {S S' : Sx} {B' : Bd} {g : Nat} (h1 : SpOk V L ch S) (h2 : spreadN g S.B = some (B', -1)) (h3 : ChOk n { S with B := B' }) (h4 : Sx.choose { S with B := B' } = (S', false)) (h5 : S'.V ≤ 14) : Run V n 0 b L ch S S' := ⟨rfl, B', g, h1, h2, h3, h4, h5⟩
def RnI (base : Nat) (w : World) (G s R q gp gw gm gl : Nat) (vl : Value) (V : Int) (n : Nat) (Sf : Sx) (k : Nat) (wr : World) : Prop :=
 ∃ XB XQ nS nW vh vp b L ch S, Ser base wr s XB XQ R nS nW q gp gw gm gl vh vl vp S ∧ (b = true → vp = .slice none 0 0) ∧ Run V n k b L ch S Sf ∧ nS + k * 1000000 ≤ 5000000000000 ∧ nW + k * 1000000000000 ≤ 400000000000000000 ∧ Below base w wr ∧ wr.heap[G]? = some (.cells #[.int .i64 0, .slice none 0 0, .slice none 0 0] 160) ∧ Free base s XB XQ gm gl G
def RuOut (base : Nat) (w : World) (Sf : Sx) (e : Ending) (w' : World) : Prop := ∃ g, e = .returned (.agg #[.int .i64 1, .slice (some ⟨g, 0, none⟩) Sf.V Sf.V, .slice none 0 0]) ∧ w'.heap[g]? = some (.cells ((valN Sf.B Sf.V Sf.V).map Value.bool).toArray 4 (0, 0)) ∧ base ≤ g ∧ Below base w w'
theorem BdAt.lo {w : World} {X : Nat → Prop} {R nS nW : Nat} {B : Bd} (h : BdAt w X R nS nW B) : w.cell? ⟨R, 3, none⟩ = some (.bool B.lost) := by
 obtain ⟨S, W, vc, vs, wk, cg, cc, wv, h⟩ := h
 exact h.c3
set_option maxHeartbeats 8000000 in
theorem run_s (base : Nat) (w : World) (s : Nat) (XB XQ : Nat → Prop) (R nS nW q gp gw gm gl : Nat) (vh vl : Value) (S Sf : Sx) (h : Ser base w s XB XQ R nS nW q gp gw gm gl vh vl (.slice none 0 0) S) (V : Int) (n k : Nat) (L : List (List Int)) (hr : Run V n k true L (fun _ => False) S Sf) (hnS : nS + k * 1000000 ≤ 5000000000000) (hnW : nW + k * 1000000000000 ≤ 400000000000000000) :
   Calls Tryz.prog 159 #[.pointer (some ⟨s, 0, none⟩)] w (RuOut base w Sf) := by
 have hbs : base ≤ w.heap.size := by have := h.sx; have := h.ss.1; omega
 have HI0 : Hid (RnI base w w.heap.size s R q gp gw gm gl vl V n Sf k (w.alloc (.cells #[.int .i64 0, .slice none 0 0, .slice none 0 0] 160))) := ⟨XB, XQ, nS, nW, vh, .slice none 0 0, true, L, fun _ => False, S, h.later (bal (Below.refl _ _) _), fun _ => rfl, hr, hnS, hnW, (bal (Below.refl _ w) _).mono hbs, (MapKept.heap_alloc w _).1, h.free (Nat.le_refl _)⟩
 clear h hr hnS hnW
 go_enter Tryz.func159, Tryz.ntmps159
 go_wp2_with fail
 generalize w.alloc (.cells #[.int .i64 0, .slice none 0 0, .slice none 0 0] 160) = w0 at *
 generalize w.heap.size = G at *
 go_loopg [] k (fun k wr => Hid (RnI base w G s R q gp gw gm gl vl V n Sf k wr))
 case atStart => exact HI0
 case round =>
   clear HI0
   obtain ⟨XB1, XQ1, nS1, nW1, vh1, vp1, b1, L1, ch1, S1, hs, hvp, hR, hbS, hbW, hbw, hG, hFG⟩ := hrel.out
   clear hrel
   have s0 := hs.s0
   have c3 := BdAt.lo hs.bd
   have HS := hide hs
   have HVP := hide hvp
   have HBW := hide hbw
   have HG := hide (And.intro hG hFG)
   clear hs hvp hbw hG hFG
   obtain ⟨rfl, B9, g9, a1, a2, a3, a4, a5⟩ := hR
   focus
     rw [a1.lost] at c3
     have HSP := hide (spread_any wr XB1 R nS1 nW1 S1.B HS.out.bd V L1 ch1 a1.inv a1.vv a1.cl (by omega) (by omega))
     have HLO := hide a1.lost
     have HFW := hide a1.few
     have hV2 : (2 * V + 1).toNat ≤ 400001 := by have := a1.vv; omega
     go_wp2_with fail
     refine HSP.out.mono ?_
     rintro e wa ⟨f, B2, X2, nS2, nW2, rfl, hb2, hF2, hn2, hm2, hl2, hspr⟩
     obtain ⟨g', he⟩ := hspr.ex
     have hone := spread_one he a2
     injection hone with e1 e2
     subst e1
     subst e2
     have HSA := hide (HS.out.board hb2 hF2)
     have HBA := hide (HBW.out.trans (HS.out.bw hF2))
     have hsz : wr.heap.size ≤ wa.heap.size := hF2.size
     have hGl : G < wr.heap.size := (Array.getElem?_eq_some_iff.1 HG.out.1).1
     have HGA : Hid (wa.heap[G]? = some (.cells #[.int .i64 0, .slice none 0 0, .slice none 0 0] 160) ∧ Free base s X2 XQ1 gm gl G) := ⟨(hF2.far G hGl HG.out.2.b).trans HG.out.1, fun e => HG.out.2.b (hF2.fro G hGl e), HG.out.2.q, HG.out.2.m, HG.out.2.l, HG.out.2.s, HG.out.2.base⟩
     have hlo2 : B2.lost = false := (hspr.ok rfl).2.2.trans HLO.out
     have s0 := HSA.out.s0
     have c3 := BdAt.lo HSA.out.bd
     simp only at c3
     rw [hlo2] at c3
     clear hb2 hF2 hspr he HSP HS HBW HG hlo2 a1 a2
     have HCH := hide (choose_s base wa s X2 XQ1 R nS2 nW2 q gp gw gm gl vh1 vl vp1 _ HSA.out n a3.q a3.nn a3.ln a3.sp (by omega) a3.lv)
     have HA4 := hide a4
     clear a3 a4
     go_wp2_with fail
     refine HCH.out.mono ?_
     rintro e wb ⟨rfl, ⟨XB3, XQ3, nS3, vh3, hs3, hn3, hst3⟩, hb3⟩
     rw [HA4.out]
     rw [HA4.out] at hs3
     simp only at hs3
     have hGl2 : G < wa.heap.size := (Array.getElem?_eq_some_iff.1 HGA.out.1).1
     have HGB : Hid (wb.heap[G]? = some (.cells #[.int .i64 0, .slice none 0 0, .slice none 0 0] 160)) := (hst3.far G hGl2 HGA.out.2.b HGA.out.2.q).trans HGA.out.1
     have HBB := hide (HBA.out.trans hb3)
     have HVA := hide (values_s base wb s XB3 XQ3 R nS3 nW2 q gp gw gm gl vh3 vl vp1 _ hs3 (by omega))
     have hbs2 : base ≤ wb.heap.size := by have := hs3.sx; have := hs3.ss.1; omega
     have HGF := hide HGA.out.2.base
     clear hs3 hst3 hb3 HCH HSA HBA HGA c3 s0
     go_wp2_with fail
     refine HVA.out.mono ?_
     rintro e wc ⟨gv, rfl, hgv, hgs, hbc⟩
     have hGlb : G < wb.heap.size := (Array.getElem?_eq_some_iff.1 HGB.out).1
     have HGC : Hid (wc.heap[G]? = some (.cells #[.int .i64 0, .slice none 0 0, .slice none 0 0] 160)) := (hbc.block G hGlb).trans HGB.out
     have HBC := hide (HBB.out.trans (hbc.mono hbs2))
     have HGV := hide hgv
     have hne : gv ≠ G := by omega
     have q0 : wc.cell? ⟨G, 0, none⟩ = some (.int .i64 0) := by rw [Lib.cell_of_heap HGC.out]; rfl
     have q1 : wc.cell? ⟨G, 1, none⟩ = some (.slice none 0 0) := by rw [Lib.cell_of_heap HGC.out]; rfl
     have q2 : wc.cell? ⟨G, 2, none⟩ = some (.slice none 0 0) := by rw [Lib.cell_of_heap HGC.out]; rfl
     have z0 : wc.frozen? ⟨G, 0, none⟩ = false := Lib.frozen_of_heap HGC.out 0
     have z1 : wc.frozen? ⟨G, 1, none⟩ = false := Lib.frozen_of_heap HGC.out 1
     have z2 : wc.frozen? ⟨G, 2, none⟩ = false := Lib.frozen_of_heap HGC.out 2
     have HGZ : Hid ((((wc.setCell ⟨G, 0, none⟩ (.int .i64 1)).setCell ⟨G, 1, none⟩ (.slice (some ⟨gv, 0, none⟩) Sf.V Sf.V)).setCell ⟨G, 2, none⟩ (.slice none 0 0)).heap[G]? = some (.cells #[.int .i64 1, .slice (some ⟨gv, 0, none⟩) Sf.V Sf.V, .slice none 0 0] 160)) := by
       unfold Hid
       rw [heap_setCell_same _ _ _ _ _ _ (heap_setCell_same _ _ _ _ _ _ (heap_setCell_same _ _ _ _ _ _ HGC.out))]
       rfl
     have HGW : Hid ((((wc.setCell ⟨G, 0, none⟩ (.int .i64 1)).setCell ⟨G, 1, none⟩ (.slice (some ⟨gv, 0, none⟩) Sf.V Sf.V)).setCell ⟨G, 2, none⟩ (.slice none 0 0)).heap[gv]? = some (.cells ((valN Sf.B Sf.V Sf.V).map Value.bool).toArray 4 (0, 0))) := by
       unfold Hid
       rw [heap_setCell_other _ _ _ _ (show gv ≠ G from hne), heap_setCell_other _ _ _ _ (show gv ≠ G from hne), heap_setCell_other _ _ _ _ (show gv ≠ G from hne)]
       exact HGV.out
     have HBZ : Hid (Below base w (((wc.setCell ⟨G, 0, none⟩ (.int .i64 1)).setCell ⟨G, 1, none⟩ (.slice (some ⟨gv, 0, none⟩) Sf.V Sf.V)).setCell ⟨G, 2, none⟩ (.slice none 0 0))) := ((HBC.out.setCell (p := ⟨G, 0, none⟩) HGF.out _).setCell (p := ⟨G, 1, none⟩) HGF.out _).setCell (p := ⟨G, 2, none⟩) HGF.out _
     have hbg : base ≤ gv := by omega
     clear hgv hbc HVA HGB HBB HGC HBC HGV
     go_wp2
     try simp only [Exit.inBlock, Exit.then]
     refine bodyPost_ret (results_cell_row rfl _ _ G 160 _ _ _ rfl HGZ.out Tryz.underlying160 rfl (by kernel_rfl)) rfl ?_
     exact ⟨gv, rfl, HGW.out, hbg, HBZ.out⟩
end Go.Proofs.YtjhkecnnhddhbaaGreatDoor.Sr

namespace Go.Proofs.YtjhkecnnhddhbaaGreatDoor.Sr
open Go.Proofs.YtjhkecnnhddhbaaGreatDoor.Pf
set_option maxRecDepth 100000
theorem chOk_of {n : Nat} {S : Sx} (h : (S.Q.pl.length = n ∧ S.Q.wt.length = n ∧ (∀ v ∈ S.Q.hp, 0 ≤ v ∧ v < n) ∧ S.Q.hp.length ≤ 1000000 ∧ n ≤ 1000000) ∧ n ≤ 200000 ∧ S.lean.length = n ∧ S.B.sp.length ≤ 1000000 ∧ 0 ≤ S.B.level ∧ S.B.level ≤ 1000000) : ChOk n S :=
 ⟨⟨h.1.1, h.1.2.1, h.1.2.2.1, h.1.2.2.2.1, h.1.2.2.2.2⟩, h.2.1, h.2.2.1, h.2.2.2.1, h.2.2.2.2⟩
end Go.Proofs.YtjhkecnnhddhbaaGreatDoor.Sr

namespace Go.Proofs.YtjhkecnnhddhbaaGreatDoor.Sr
open Go.RowKit Go.Maps Go.Proofs.YtjhkecnnhddhbaaGreatDoor.Pf
set_option maxRecDepth 100000
theorem row_bools {w : World} {g : Nat} {l : List Bool} (h : w.heap[g]? = some (.cells (l.map Value.bool).toArray 4 (0, 0))) : BoolsAt w (some ⟨g, 0, none⟩) l := fun _ => ⟨g, 0, rfl, fun i hi => by
 rw [Lib.cell_of_heap h, List.getElem?_toArray, List.getElem?_map, Nat.zero_add, List.getElem?_eq_getElem hi]
 rfl⟩
def SoOut (w : World) (Sf : Sx) (e : Ending) (w' : World) : Prop := ∃ g, e = .returned (.tuple #[.agg #[.int .i64 1, .slice (some ⟨g, 0, none⟩) Sf.V Sf.V, .slice none 0 0], .int .i64 0]) ∧ BoolsAt w' (some ⟨g, 0, none⟩) (valN Sf.B Sf.V Sf.V) ∧ Below w.heap.size w w'
set_option maxHeartbeats 8000000 in
theorem solve_s (V : Nat) (hV : V ≤ 14) (p : Option Addr) (cap : Nat) (rs : List Row) (hl : rs.length ≤ 800000) (hx : ∀ r ∈ rs, r.ns.length ≤ 200 ∧ ∀ x ∈ r.ns, Num V x) (hck : chkC V (numsOf rs) = 0) (fuel : Int) (hf : 0 ≤ fuel ∧ fuel ≤ 1000000) (Sf : Sx) (k : Nat) (hk : k ≤ 1000)
   (hrun : ∀ B, Inv V (numsOf rs) (fun _ => False) B → B.level = 0 → (∃ g f, spreadN g (addAll (numsOf rs)) = some (B, f)) → ∃ n, Run V n k true (numsOf rs) (fun _ => False) (newSx V B (fuel * 100)) Sf) (w : World) (hC : ClAt w p rs) :
   Calls Tryz.prog 129 #[cval V p rs.length cap, .int .i64 fuel] w (SoOut w Sf) := by
 have hb0 : Below w.heap.size w ((w.alloc (.cells #[.int .i64 V, .slice p rs.length cap] 30)).alloc (.cells #[.int .i64 0, .slice none 0 0, .slice none 0 0] 160)) := bal (bal (Below.refl _ _) _) _
 have HB0 := hide hb0
 have HCK := hide (checkC_any (V : Int) p cap rs (by omega) (fun r hr => by have := (hx r hr).1; unfold maxLen; omega) ((w.alloc (.cells #[.int .i64 V, .slice p rs.length cap] 30)).alloc (.cells #[.int .i64 0, .slice none 0 0, .slice none 0 0] 160)) (hC.later hb0))
 rw [hck] at HCK
 have HX := hide hx
 have HC := hide hC
 have HR := hide hrun
 have x0 : ((w.alloc (.cells #[.int .i64 V, .slice p rs.length cap] 30)).alloc (.cells #[.int .i64 0, .slice none 0 0, .slice none 0 0] 160)).cell? ⟨w.heap.size, 0, none⟩ = some (.int .i64 V) := by simp [go_sem]
 have x1 : ((w.alloc (.cells #[.int .i64 V, .slice p rs.length cap] 30)).alloc (.cells #[.int .i64 0, .slice none 0 0, .slice none 0 0] 160)).cell? ⟨w.heap.size, 1, none⟩ = some (.slice p rs.length cap) := by simp [go_sem]
 have HG : Hid (((w.alloc (.cells #[.int .i64 V, .slice p rs.length cap] 30)).alloc (.cells #[.int .i64 0, .slice none 0 0, .slice none 0 0] 160)).heap[w.heap.size + 1]? = some (.cells #[.int .i64 0, .slice none 0 0, .slice none 0 0] 160)) := by
   have := (MapKept.heap_alloc (w.alloc (.cells #[.int .i64 V, .slice p rs.length cap] 30)) (.cells #[.int .i64 0, .slice none 0 0, .slice none 0 0] 160)).1
   rw [World.size_alloc] at this
   exact this
 have hfl : decide (fuel < 0) = false := by simp; omega
 have hfg : decide (1000000 < fuel) = false := by simp; omega
 clear hx hC hrun hb0 hck
 unfold cval at *
 go_enter Tryz.func129, Tryz.ntmps129
 go_wp2_with fail
 generalize (w.alloc (.cells #[.int .i64 V, .slice p rs.length cap] 30)).alloc (.cells #[.int .i64 0, .slice none 0 0, .slice none 0 0] 160) = w1 at *
 refine HCK.out.mono ?_
 rintro e w2 ⟨rfl, hb2⟩
 have y0 := cell_later hb2 x0
 have y1 := cell_later hb2 x1
 have HG2 : Hid (w2.heap[w.heap.size + 1]? = some (.cells #[.int .i64 0, .slice none 0 0, .slice none 0 0] 160)) := (hb2.block _ (Array.getElem?_eq_some_iff.1 HG.out).1).trans HG.out
 have HB2 := hide (bthen HB0.out hb2)
 have HNS := hide (newS_any V (by omega) p cap rs hl HX.out fuel ⟨by omega, by omega⟩ w2 (HC.out.later HB2.out))
 unfold cval at HNS
 clear hb2 x0 x1 HCK HG HB0
 generalize hG : w.heap.size + 1 = G at *
 go_wp2_with fail
 refine HNS.out.mono ?_
 rintro e w3 ⟨⟨s, R, nS, nW, q, gp, gw, gm, gl, vh, B, XB, XQ, rfl, hser, hinv, ⟨hlv, hsp⟩, -, -, hnS, hnW⟩, hb3⟩
 obtain ⟨n, hR⟩ := HR.out B hinv hlv hsp
 have HRN := hide (run_s w2.heap.size w3 s XB XQ R nS nW q gp gw gm gl vh _ _ Sf hser V n k _ hR (by omega) (by omega))
 have hG2 : G < w2.heap.size := (Array.getElem?_eq_some_iff.1 HG2.out).1
 have HG3 : Hid (w3.heap[G]? = some (.cells #[.int .i64 0, .slice none 0 0, .slice none 0 0] 160)) := (hb3.block G hG2).trans HG2.out
 have HB3 := hide hb3
 clear hser hinv hlv hsp hb3 HNS HG2 y0 y1 hR
 go_wp2_with fail
 refine HRN.out.mono ?_
 rintro e w4 ⟨g, rfl, hg, hgb, hb4⟩
 have HG4 : Hid (w4.heap[G]? = some (.cells #[.int .i64 0, .slice none 0 0, .slice none 0 0] 160)) := (hb4.block G hG2).trans HG3.out
 have HB4 := hide (bthen HB2.out (HB3.out.trans hb4))
 have hne : g ≠ G := by omega
 have q0 : w4.cell? ⟨G, 0, none⟩ = some (.int .i64 0) := by rw [Lib.cell_of_heap HG4.out]; rfl
 have q1 : w4.cell? ⟨G, 1, none⟩ = some (.slice none 0 0) := by rw [Lib.cell_of_heap HG4.out]; rfl
 have q2 : w4.cell? ⟨G, 2, none⟩ = some (.slice none 0 0) := by rw [Lib.cell_of_heap HG4.out]; rfl
 have z0 : w4.frozen? ⟨G, 0, none⟩ = false := Lib.frozen_of_heap HG4.out 0
 have z1 : w4.frozen? ⟨G, 1, none⟩ = false := Lib.frozen_of_heap HG4.out 1
 have z2 : w4.frozen? ⟨G, 2, none⟩ = false := Lib.frozen_of_heap HG4.out 2
 have HGZ : Hid ((((w4.setCell ⟨G, 0, none⟩ (.int .i64 1)).setCell ⟨G, 1, none⟩ (.slice (some ⟨g, 0, none⟩) Sf.V Sf.V)).setCell ⟨G, 2, none⟩ (.slice none 0 0)).heap[G]? = some (.cells #[.int .i64 1, .slice (some ⟨g, 0, none⟩) Sf.V Sf.V, .slice none 0 0] 160)) := by
   unfold Hid
   rw [heap_setCell_same _ _ _ _ _ _ (heap_setCell_same _ _ _ _ _ _ (heap_setCell_same _ _ _ _ _ _ HG4.out))]
   rfl
 have HGW : Hid (BoolsAt (((w4.setCell ⟨G, 0, none⟩ (.int .i64 1)).setCell ⟨G, 1, none⟩ (.slice (some ⟨g, 0, none⟩) Sf.V Sf.V)).setCell ⟨G, 2, none⟩ (.slice none 0 0)) (some ⟨g, 0, none⟩) (valN Sf.B Sf.V Sf.V)) := by
   refine row_bools ?_
   rw [heap_setCell_other _ _ _ _ (show g ≠ G from hne), heap_setCell_other _ _ _ _ (show g ≠ G from hne), heap_setCell_other _ _ _ _ (show g ≠ G from hne)]
   exact hg
 have HBZ : Hid (Below w.heap.size w (((w4.setCell ⟨G, 0, none⟩ (.int .i64 1)).setCell ⟨G, 1, none⟩ (.slice (some ⟨g, 0, none⟩) Sf.V Sf.V)).setCell ⟨G, 2, none⟩ (.slice none 0 0))) := ((HB4.out.setCell (p := ⟨G, 0, none⟩) (show w.heap.size ≤ G by omega) _).setCell (p := ⟨G, 1, none⟩) (show w.heap.size ≤ G by omega) _).setCell (p := ⟨G, 2, none⟩) (show w.heap.size ≤ G by omega) _
 clear hg hgb hb4 HRN HG3 HG4 HB2 HB3 HB4
 go_wp2
 try simp only [Exit.inBlock, Exit.then]
 refine bodyPost_ret ((results_cell_tmp rfl _ _ _).trans (?_ : _ = Result.ok (.tuple #[.agg #[.int .i64 1, .slice (some ⟨g, 0, none⟩) Sf.V Sf.V, .slice none 0 0], .int .i64 0]) _)) rfl ⟨g, rfl, HGW.out, HBZ.out⟩
 have hld := run_loadVar_row (P := Tryz.prog) _ G 160 160 _ _ _ HGZ.out Tryz.underlying160 rfl (by kernel_rfl)
 generalize ((w4.setCell ⟨G, 0, none⟩ (.int .i64 1)).setCell ⟨G, 1, none⟩ (.slice (some ⟨g, 0, none⟩) Sf.V Sf.V)).setCell ⟨G, 2, none⟩ (.slice none 0 0) = w5 at *
 simp [asAddr, hld, Result.andThen]
end Go.Proofs.YtjhkecnnhddhbaaGreatDoor.Sr
