/- A searcher runs: the walk. -/
import Derived.Test.YtkinmangilbeeaaGreatDoorLr
import Derived.Deep.LoopGhost
import Derived.Laws.Rows
namespace Go.Proofs.YtkinmangilbeeaaGreatDoor.Sr
open Go.RowKit Go.Maps Go.Proofs.YtkinmangilbeeaaGreatDoor.Pf
set_option maxRecDepth 100000

/-- A searcher may choose. -/
structure ChOk (n : Nat) (S : Sx) : Prop where
  q : QOk n S.Q
  nn : n ≤ 200000
  ln : S.lean.length = n
  sp : S.B.sp.length ≤ 1000000
  lv : 0 ≤ S.B.level ∧ S.B.level ≤ 1000000
/-- A board may be spread. -/
structure SpOk (V : Int) (L : List (List Int)) (ch : Int → Prop) (S : Sx) : Prop where
  inv : Inv V L ch S.B
  lost : S.B.lost = false
  vv : V ≤ 200000
  cl : S.B.cl.length ≤ 800000
  few : S.V ≤ 14
/-- How a search runs to its end, that all clauses can hold: so many rounds; is a lesson still to come? -/
def RunR (V : Int) (n : Nat) : Nat → Bool → List (List Int) → (Int → Prop) → Sx → Sx → Prop
  | 0, _, L, ch, S, Sf => ∃ (B' : Bd) (g : Nat), SpOk V L ch S ∧ spreadN g S.B = some (B', -1) ∧ ChOk n { S with B := B' } ∧ Sx.choose { S with B := B' } = (Sf, false) ∧ Sf.V ≤ 14
  | k + 1, b, L, ch, S, Sf => (∃ (ch' : Int → Prop) (S' : Sx) (B' : Bd) (g : Nat), SpOk V L ch S ∧ spreadN g S.B = some (B', -1) ∧ ChOk n { S with B := B' } ∧ Sx.choose { S with B := B' } = (S', true) ∧ RunR V n k b L ch' S' Sf) ∨ (b = true ∧ ∃ (ch' : Int → Prop) (B' : Bd) (g ci : Nat) (x : Int) (S1 : Sx) (T' : Lz) (p' : Nat) (S2 : Sx) (j : Nat) (S3 : Sx), SpOk V L ch S ∧ 0 < S.B.level ∧ spreadN g S.B = some (B', (ci : Int)) ∧ LearnOk V n L { S with B := B' } ci x S1 T' p' S2 j S3 ∧ RunR V n k false (L ++ [[x]]) ch' { S3 with B := S3.B.add (layD S3.B.st [x]), left := S.left - 1 } Sf)
def Run (V : Int) (n k : Nat) (b : Bool) (L : List (List Int)) (ch : Int → Prop) (S Sf : Sx) : Prop := RunR V n k b L ch S Sf
theorem Run.ends {V : Int} {n : Nat} {b : Bool} {L : List (List Int)} {ch : Int → Prop} {S Sf : Sx} {B' : Bd} {g : Nat} (h1 : SpOk V L ch S) (h2 : spreadN g S.B = some (B', -1)) (h3 : ChOk n { S with B := B' }) (h4 : Sx.choose { S with B := B' } = (Sf, false)) (h5 : Sf.V ≤ 14) : Run V n 0 b L ch S Sf := ⟨B', g, h1, h2, h3, h4, h5⟩
theorem Run.chosen {V : Int} {n k : Nat} {b : Bool} {L : List (List Int)} {ch ch' : Int → Prop} {S S' Sf : Sx} {B' : Bd} {g : Nat} (h1 : SpOk V L ch S) (h2 : spreadN g S.B = some (B', -1)) (h3 : ChOk n { S with B := B' }) (h4 : Sx.choose { S with B := B' } = (S', true)) (h5 : Run V n k b L ch' S' Sf) : Run V n (k + 1) b L ch S Sf := .inl ⟨ch', S', B', g, h1, h2, h3, h4, h5⟩
theorem Run.learnt {V : Int} {n k : Nat} {L : List (List Int)} {ch ch' : Int → Prop} {S Sf : Sx} {B' : Bd} {g ci : Nat} {x : Int} {S1 : Sx} {T' : Lz} {p' : Nat} {S2 : Sx} {j : Nat} {S3 : Sx} (h1 : SpOk V L ch S) (h2 : 0 < S.B.level) (h3 : spreadN g S.B = some (B', (ci : Int))) (h4 : LearnOk V n L { S with B := B' } ci x S1 T' p' S2 j S3) (h5 : Run V n k false (L ++ [[x]]) ch' { S3 with B := S3.B.add (layD S3.B.st [x]), left := S.left - 1 } Sf) : Run V n (k + 1) true L ch S Sf := .inr ⟨rfl, ch', B', g, ci, x, S1, T', p', S2, j, S3, h1, h2, h3, h4, h5⟩
theorem Run.inv {V : Int} {n k : Nat} {b : Bool} {L : List (List Int)} {ch : Int → Prop} {S Sf : Sx} (h : Run V n k b L ch S Sf) : (k = 0 ∧ ∃ (B' : Bd) (g : Nat), SpOk V L ch S ∧ spreadN g S.B = some (B', -1) ∧ ChOk n { S with B := B' } ∧ Sx.choose { S with B := B' } = (Sf, false) ∧ Sf.V ≤ 14) ∨ (∃ k1, k = k1 + 1 ∧ ∃ (ch' : Int → Prop) (S' : Sx) (B' : Bd) (g : Nat), SpOk V L ch S ∧ spreadN g S.B = some (B', -1) ∧ ChOk n { S with B := B' } ∧ Sx.choose { S with B := B' } = (S', true) ∧ Run V n k1 b L ch' S' Sf) ∨ ∃ k1, k = k1 + 1 ∧ b = true ∧ ∃ (ch' : Int → Prop) (B' : Bd) (g ci : Nat) (x : Int) (S1 : Sx) (T' : Lz) (p' : Nat) (S2 : Sx) (j : Nat) (S3 : Sx), SpOk V L ch S ∧ 0 < S.B.level ∧ spreadN g S.B = some (B', (ci : Int)) ∧ LearnOk V n L { S with B := B' } ci x S1 T' p' S2 j S3 ∧ Run V n k1 false (L ++ [[x]]) ch' { S3 with B := S3.B.add (layD S3.B.st [x]), left := S.left - 1 } Sf := by
  cases k with
  | zero => exact .inl ⟨rfl, h⟩
  | succ k =>
    rcases h with h | ⟨hb, h⟩
    · exact .inr (.inl ⟨k, rfl, h⟩)
    · exact .inr (.inr ⟨k, rfl, hb, h⟩)
/-- Between two rounds. -/
def RnI (base : Nat) (w : World) (G s R q gp gw gm gl : Nat) (vl : Value) (V : Int) (n : Nat) (Sf : Sx) (k : Nat) (wr : World) : Prop :=
  ∃ XB XQ nS nW vh vp b L ch S, Ser base wr s XB XQ R nS nW q gp gw gm gl vh vl vp S ∧ (b = true → vp = .slice none 0 0) ∧ Run V n k b L ch S Sf ∧ nS + k * 1000000 ≤ 5000000000000 ∧ nW + k * 1000000000000 ≤ 400000000000000000 ∧ Below base w wr ∧ wr.heap[G]? = some (.cells #[.int .i64 0, .slice none 0 0, .slice none 0 0] 27) ∧ Free base s XB XQ gm gl G
/-- What run leaves. -/
def RuOut (base : Nat) (w : World) (Sf : Sx) (e : Ending) (w' : World) : Prop := ∃ g, e = .returned (.agg #[.int .i64 1, .slice (some ⟨g, 0, none⟩) Sf.V Sf.V, .slice none 0 0]) ∧ w'.heap[g]? = some (.cells ((valN Sf.B Sf.V Sf.V).map Value.bool).toArray 4 (0, 0)) ∧ base ≤ g ∧ Below base w w'
theorem BdAt.lo {w : World} {X : Nat → Prop} {R nS nW : Nat} {B : Bd} (h : BdAt w X R nS nW B) : w.cell? ⟨R, 3, none⟩ = some (.bool B.lost) := by
  obtain ⟨S, W, vc, vs, wk, cg, cc, wv, h⟩ := h
  exact h.c3
set_option maxHeartbeats 8000000 in
theorem run_s (base : Nat) (w : World) (s : Nat) (XB XQ : Nat → Prop) (R nS nW q gp gw gm gl : Nat) (vh vl : Value) (S Sf : Sx) (h : Ser base w s XB XQ R nS nW q gp gw gm gl vh vl (.slice none 0 0) S) (V : Int) (n k : Nat) (L : List (List Int)) (hr : Run V n k true L (fun _ => False) S Sf) (hnS : nS + k * 1000000 ≤ 5000000000000) (hnW : nW + k * 1000000000000 ≤ 400000000000000000) :
    Calls Tryz.prog 30 #[.pointer (some ⟨s, 0, none⟩)] w (RuOut base w Sf) := by
  have hbs : base ≤ w.heap.size := by have := h.sx; have := h.ss.1; omega
  have HI0 : Hid (RnI base w w.heap.size s R q gp gw gm gl vl V n Sf k (w.alloc (.cells #[.int .i64 0, .slice none 0 0, .slice none 0 0] 27))) := ⟨XB, XQ, nS, nW, vh, .slice none 0 0, true, L, fun _ => False, S, h.later (bal (Below.refl _ _) _), fun _ => rfl, hr, hnS, hnW, (bal (Below.refl _ w) _).mono hbs, (MapKept.heap_alloc w _).1, h.free (Nat.le_refl _)⟩
  clear h hr hnS hnW
  go_enter Tryz.func30, Tryz.ntmps30
  go_wp2_with fail
  generalize w.alloc (.cells #[.int .i64 0, .slice none 0 0, .slice none 0 0] 27) = w0 at *
  generalize w.heap.size = G at *
  go_loopg [] k (fun k wr => Hid (RnI base w G s R q gp gw gm gl vl V n Sf k wr))
  case atStart => exact HI0
  case round =>
    clear HI0
    obtain ⟨XB1, XQ1, nS1, nW1, vh1, vp1, b1, L1, ch1, S1, hs, hvp, hR, hbS, hbW, hbw, hG, hFG⟩ := hrel.out
    clear hrel
    have s0 := hs.s0
    have c3 := BdAt.lo hs.bd
    have HS := hide hs
    have HVP := hide hvp
    have HBW := hide hbw
    have HG := hide (And.intro hG hFG)
    clear hs hvp hbw hG hFG
    rcases Run.inv hR with ⟨rfl, B9, g9, a1, a2, a3, a4, a5⟩ | ⟨k1, rfl, ch9, S9, B9, g9, a1, a2, a3, a4, a5⟩ | ⟨k1, rfl, rfl, ch9, B9, g9, ci, x, S1', T', p', S2', j, S3, a1, a2', a2, a4, a5⟩
    · skip
      rw [a1.lost] at c3
      have HSP := hide (spread_any wr XB1 R nS1 nW1 S1.B HS.out.bd V L1 ch1 a1.inv a1.vv a1.cl (by omega) (by omega))
      have HLO := hide a1.lost
      have HFW := hide a1.few
      have hV2 : (2 * V + 1).toNat ≤ 400001 := by have := a1.vv; omega
      go_wp2_with fail
      refine HSP.out.mono ?_
      rintro e wa ⟨f, B2, X2, nS2, nW2, rfl, hb2, hF2, hn2, hm2, hl2, hspr⟩
      obtain ⟨g', he⟩ := hspr.ex
      have hone := spread_one he a2
      injection hone with e1 e2
      subst e1
      subst e2
      have HSA := hide (HS.out.board hb2 hF2)
      have HBA := hide (HBW.out.trans (HS.out.bw hF2))
      have hsz : wr.heap.size ≤ wa.heap.size := hF2.size
      have hGl : G < wr.heap.size := (Array.getElem?_eq_some_iff.1 HG.out.1).1
      have HGA : Hid (wa.heap[G]? = some (.cells #[.int .i64 0, .slice none 0 0, .slice none 0 0] 27) ∧ Free base s X2 XQ1 gm gl G) := ⟨(hF2.far G hGl HG.out.2.b).trans HG.out.1, fun e => HG.out.2.b (hF2.fro G hGl e), HG.out.2.q, HG.out.2.m, HG.out.2.l, HG.out.2.s, HG.out.2.base⟩
      have hlo2 : B2.lost = false := (hspr.ok rfl).2.2.trans HLO.out
      have s0 := HSA.out.s0
      have c3 := BdAt.lo HSA.out.bd
      simp only at c3
      rw [hlo2] at c3
      clear hb2 hF2 hspr he HSP HS HBW HG hlo2 a1 a2
      have HCH := hide (choose_s base wa s X2 XQ1 R nS2 nW2 q gp gw gm gl vh1 vl vp1 _ HSA.out n a3.q a3.nn a3.ln a3.sp (by omega) a3.lv)
      have HA4 := hide a4
      clear a3 a4
      go_wp2_with fail
      refine HCH.out.mono ?_
      rintro e wb ⟨rfl, ⟨XB3, XQ3, nS3, vh3, hs3, hn3, hst3⟩, hb3⟩
      rw [HA4.out]
      rw [HA4.out] at hs3
      simp only at hs3
      have hGl2 : G < wa.heap.size := (Array.getElem?_eq_some_iff.1 HGA.out.1).1
      have HGB : Hid (wb.heap[G]? = some (.cells #[.int .i64 0, .slice none 0 0, .slice none 0 0] 27)) := (hst3.far G hGl2 HGA.out.2.b HGA.out.2.q).trans HGA.out.1
      have HBB := hide (HBA.out.trans hb3)
      have HVA := hide (values_s base wb s XB3 XQ3 R nS3 nW2 q gp gw gm gl vh3 vl vp1 _ hs3 (by omega))
      have hbs2 : base ≤ wb.heap.size := by have := hs3.sx; have := hs3.ss.1; omega
      have HGF := hide HGA.out.2.base
      clear hs3 hst3 hb3 HCH HSA HBA HGA c3 s0
      go_wp2_with fail
      refine HVA.out.mono ?_
      rintro e wc ⟨gv, rfl, hgv, hgs, hbc⟩
      have hGlb : G < wb.heap.size := (Array.getElem?_eq_some_iff.1 HGB.out).1
      have HGC : Hid (wc.heap[G]? = some (.cells #[.int .i64 0, .slice none 0 0, .slice none 0 0] 27)) := (hbc.block G hGlb).trans HGB.out
      have HBC := hide (HBB.out.trans (hbc.mono hbs2))
      have HGV := hide hgv
      have hne : gv ≠ G := by omega
      have q0 : wc.cell? ⟨G, 0, none⟩ = some (.int .i64 0) := by rw [Lib.cell_of_heap HGC.out]; rfl
      have q1 : wc.cell? ⟨G, 1, none⟩ = some (.slice none 0 0) := by rw [Lib.cell_of_heap HGC.out]; rfl
      have q2 : wc.cell? ⟨G, 2, none⟩ = some (.slice none 0 0) := by rw [Lib.cell_of_heap HGC.out]; rfl
      have z0 : wc.frozen? ⟨G, 0, none⟩ = false := Lib.frozen_of_heap HGC.out 0
      have z1 : wc.frozen? ⟨G, 1, none⟩ = false := Lib.frozen_of_heap HGC.out 1
      have z2 : wc.frozen? ⟨G, 2, none⟩ = false := Lib.frozen_of_heap HGC.out 2
      have HGZ : Hid ((((wc.setCell ⟨G, 0, none⟩ (.int .i64 1)).setCell ⟨G, 1, none⟩ (.slice (some ⟨gv, 0, none⟩) Sf.V Sf.V)).setCell ⟨G, 2, none⟩ (.slice none 0 0)).heap[G]? = some (.cells #[.int .i64 1, .slice (some ⟨gv, 0, none⟩) Sf.V Sf.V, .slice none 0 0] 27)) := by
        unfold Hid
        rw [heap_setCell_same _ _ _ _ _ _ (heap_setCell_same _ _ _ _ _ _ (heap_setCell_same _ _ _ _ _ _ HGC.out))]
        rfl
      have HGW : Hid ((((wc.setCell ⟨G, 0, none⟩ (.int .i64 1)).setCell ⟨G, 1, none⟩ (.slice (some ⟨gv, 0, none⟩) Sf.V Sf.V)).setCell ⟨G, 2, none⟩ (.slice none 0 0)).heap[gv]? = some (.cells ((valN Sf.B Sf.V Sf.V).map Value.bool).toArray 4 (0, 0))) := by
        unfold Hid
        rw [heap_setCell_other _ _ _ _ (show gv ≠ G from hne), heap_setCell_other _ _ _ _ (show gv ≠ G from hne), heap_setCell_other _ _ _ _ (show gv ≠ G from hne)]
        exact HGV.out
      have HBZ : Hid (Below base w (((wc.setCell ⟨G, 0, none⟩ (.int .i64 1)).setCell ⟨G, 1, none⟩ (.slice (some ⟨gv, 0, none⟩) Sf.V Sf.V)).setCell ⟨G, 2, none⟩ (.slice none 0 0))) := ((HBC.out.setCell (p := ⟨G, 0, none⟩) HGF.out _).setCell (p := ⟨G, 1, none⟩) HGF.out _).setCell (p := ⟨G, 2, none⟩) HGF.out _
      have hbg : base ≤ gv := by omega
      clear hgv hbc HVA HGB HBB HGC HBC HGV
      go_wp2
      try simp only [Exit.inBlock, Exit.then]
      refine bodyPost_ret (results_cell_row rfl _ _ G 27 _ _ _ rfl HGZ.out Tryz.underlying27 rfl (by kernel_rfl)) rfl ?_
      exact ⟨gv, rfl, HGW.out, hbg, HBZ.out⟩
    · skip
      rw [a1.lost] at c3
      have HSP := hide (spread_any wr XB1 R nS1 nW1 S1.B HS.out.bd V L1 ch1 a1.inv a1.vv a1.cl (by omega) (by omega))
      have HLO := hide a1.lost
      have HFW := hide a1.few
      have hV2 : (2 * V + 1).toNat ≤ 400001 := by have := a1.vv; omega
      go_wp2_with fail
      refine HSP.out.mono ?_
      rintro e wa ⟨f, B2, X2, nS2, nW2, rfl, hb2, hF2, hn2, hm2, hl2, hspr⟩
      obtain ⟨g', he⟩ := hspr.ex
      have hone := spread_one he a2
      injection hone with e1 e2
      subst e1
      subst e2
      have HSA := hide (HS.out.board hb2 hF2)
      have HBA := hide (HBW.out.trans (HS.out.bw hF2))
      have hsz : wr.heap.size ≤ wa.heap.size := hF2.size
      have hGl : G < wr.heap.size := (Array.getElem?_eq_some_iff.1 HG.out.1).1
      have HGA : Hid (wa.heap[G]? = some (.cells #[.int .i64 0, .slice none 0 0, .slice none 0 0] 27) ∧ Free base s X2 XQ1 gm gl G) := ⟨(hF2.far G hGl HG.out.2.b).trans HG.out.1, fun e => HG.out.2.b (hF2.fro G hGl e), HG.out.2.q, HG.out.2.m, HG.out.2.l, HG.out.2.s, HG.out.2.base⟩
      have hlo2 : B2.lost = false := (hspr.ok rfl).2.2.trans HLO.out
      have s0 := HSA.out.s0
      have c3 := BdAt.lo HSA.out.bd
      simp only at c3
      rw [hlo2] at c3
      clear hb2 hF2 hspr he HSP HS HBW HG hlo2 a1 a2
      have HCH := hide (choose_s base wa s X2 XQ1 R nS2 nW2 q gp gw gm gl vh1 vl vp1 _ HSA.out n a3.q a3.nn a3.ln a3.sp (by omega) a3.lv)
      have HA4 := hide a4
      have HA5 := hide a5
      clear a3 a4 a5
      go_wp2_with fail
      refine HCH.out.mono ?_
      rintro e wb ⟨rfl, ⟨XB3, XQ3, nS3, vh3, hs3, hn3, hst3⟩, hb3⟩
      rw [HA4.out]
      rw [HA4.out] at hs3
      simp only at hs3
      have hGl2 : G < wa.heap.size := (Array.getElem?_eq_some_iff.1 HGA.out.1).1
      have HNX : Hid (RnI base w G s R q gp gw gm gl vl V n Sf k1 wb) := ⟨XB3, XQ3, nS3, nW2, vh3, vp1, b1, L1, _, _, hs3, HVP.out, HA5.out, by omega, by omega, HBA.out.trans hb3, (hst3.far G hGl2 HGA.out.2.b HGA.out.2.q).trans HGA.out.1, fun e => HGA.out.2.b (hst3.frb G hGl2 e), fun e => HGA.out.2.q (hst3.frq G hGl2 e), HGA.out.2.m, HGA.out.2.l, HGA.out.2.s, HGA.out.2.base⟩
      clear hs3 hst3 hb3 HCH HSA HBA HGA c3 s0
      go_wp2
      go_roundg k1
      case rel => exact HNX
      case measure => omega
    · skip
      obtain rfl := HVP.out rfl
      rw [a1.lost] at c3
      have HSP := hide (spread_any wr XB1 R nS1 nW1 S1.B HS.out.bd V L1 ch1 a1.inv a1.vv a1.cl (by omega) (by omega))
      have HLO := hide a1.lost
      have HFW := hide a1.few
      have hV2 : (2 * V + 1).toNat ≤ 400001 := by have := a1.vv; omega
      go_wp2_with fail
      refine HSP.out.mono ?_
      rintro e wa ⟨f, B2, X2, nS2, nW2, rfl, hb2, hF2, hn2, hm2, hl2, hspr⟩
      obtain ⟨g', he⟩ := hspr.ex
      have hone := spread_one he a2
      injection hone with e1 e2
      subst e1
      subst e2
      have HSA := hide (HS.out.board hb2 hF2)
      have HBA := hide (HBW.out.trans (HS.out.bw hF2))
      have hsz : wr.heap.size ≤ wa.heap.size := hF2.size
      have hGl : G < wr.heap.size := (Array.getElem?_eq_some_iff.1 HG.out.1).1
      have HGA : Hid (wa.heap[G]? = some (.cells #[.int .i64 0, .slice none 0 0, .slice none 0 0] 27) ∧ Free base s X2 XQ1 gm gl G) := ⟨(hF2.far G hGl HG.out.2.b).trans HG.out.1, fun e => HG.out.2.b (hF2.fro G hGl e), HG.out.2.q, HG.out.2.m, HG.out.2.l, HG.out.2.s, HG.out.2.base⟩
      have hlo2 : B2.lost = false := ((hspr.bad (by omega)).2.1 a2').2.trans HLO.out
      have s0 := HSA.out.s0
      have c3 := BdAt.lo HSA.out.bd
      simp only at c3
      rw [hlo2] at c3
      clear hb2 hF2 hspr he HSP HS HBW HG hlo2 a1 a2
      have HLN : Hid (∀ W, Below wa.heap.size wa W → Calls Tryz.prog 48 #[.pointer (some ⟨s, 0, none⟩), .int .i64 ci] W (LnOut base W s X2 XQ1 R nS2 nW2 q gp gw gm gl vl V (L1 ++ [[x]]) { S3 with B := S3.B.add (layD S3.B.st [x]), left := S1.left - 1 })) := fun W hb => learn_1 base W s X2 XQ1 R nS2 nW2 q gp gw gm gl vh1 vl _ (HSA.out.later hb) V n L1 _ _ _ _ _ _ _ _ a4 (by omega) (by omega)
      have HSN := hide (isSpent_few HSA.out HFW.out)
      have hcine : ((ci : Int) != -1) = true := by simp
      have HA5 := hide a5
      clear a4 a5
      go_wp2_with fail
      refine HSN.out.mono ?_
      rintro e wb ⟨rfl, hbb⟩
      have HGB : Hid (wb.heap[G]? = some (.cells #[.int .i64 0, .slice none 0 0, .slice none 0 0] 27)) := (hbb.block G (Nat.lt_of_lt_of_le hGl hsz)).trans HGA.out.1
      have HBB := hide (HBA.out.trans (hbb.mono (by have := HSA.out.sx; have := HSA.out.ss.1; omega)))
      have HLW := hide (HLN.out wb hbb)
      have hszb : wa.heap.size ≤ wb.heap.size := hbb.size
      clear HLN HSN hbb c3 s0 HSA
      go_wp2_with fail
      refine HLW.out.mono ?_
      rintro e wc ⟨rfl, ⟨XB3, XQ3, nS3, nW3, vh3, vp3, hs3, hn3, hm3, hk3⟩, hb3, hI3⟩
      obtain ⟨hG1, hG2⟩ := hk3 G (by omega) HGA.out.2
      have HNX : Hid (RnI base w G s R q gp gw gm gl vl V n Sf k1 wc) := ⟨XB3, XQ3, nS3, nW3, vh3, vp3, false, _, _, _, hs3, fun e => (by cases e), HA5.out, by omega, by omega, HBB.out.trans hb3, hG1.trans HGB.out, hG2⟩
      clear hs3 hk3 hb3 hI3 hG1 hG2 HLW HBB HGB HGA
      go_wp2
      go_roundg k1
      case rel => exact HNX
      case measure => omega
end Go.Proofs.YtkinmangilbeeaaGreatDoor.Sr
