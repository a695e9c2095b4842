/- A searcher in memory. -/
import Derived.Test.YtjhkecnnhddhbaaGreatDoorJhM
import Derived.Test.YtjhkecnnhddhbaaGreatDoorPtM
namespace Go.Proofs.YtjhkecnnhddhbaaGreatDoor.Sr
open Go.RowKit Go.Maps Go.Proofs.YtjhkecnnhddhbaaGreatDoor.Pf
set_option maxRecDepth 100000
theorem BdAt.apart {w w1 : World} {X : Nat → Prop} {R nS nW : Nat} {B : Bd} (h : BdAt w X R nS nW B) (hs : w.heap.size ≤ w1.heap.size) (hb : ∀ g, X g → w1.heap[g]? = w.heap[g]?) : BdAt w1 X R nS nW B := by
 obtain ⟨S, W, vc, vs, wk, cg, cc, wv, h⟩ := h
 exact ⟨S, W, vc, vs, wk, cg, cc, wv, h.apart hs hb⟩
theorem BdAt.xb {w : World} {X : Nat → Prop} {R nS nW : Nat} {B : Bd} (h : BdAt w X R nS nW B) : ∀ g, X g → g < w.heap.size := by
 obtain ⟨S, W, vc, vs, wk, cg, cc, wv, h⟩ := h
 exact h.xb
theorem isSoB {w : World} {X : Nat → Prop} {R nS nW : Nat} {B : Bd} (h : BdAt w X R nS nW B) (x : Int) (hx : Small x) :
   Calls Tryz.prog 203 #[.pointer (some ⟨R, 0, none⟩), .int .i64 x] w fun e w' => e = .returned (.bool (decide (x ∈ B.st))) ∧ w' = w := by
 obtain ⟨S, W, vc, vs, wk, cg, cc, wv, h⟩ := h
 exact isSo_any R S nS B.st x hx w h.c5 h.so
theorem isNotB {w : World} {X : Nat → Prop} {R nS nW : Nat} {B : Bd} (h : BdAt w X R nS nW B) (x : Int) (hx : Small x) :
   Calls Tryz.prog 204 #[.pointer (some ⟨R, 0, none⟩), .int .i64 x] w fun e w' => e = .returned (.bool (decide (-x ∈ B.st))) ∧ w' = w := by
 obtain ⟨S, W, vc, vs, wk, cg, cc, wv, h⟩ := h
 exact isNot_any R S nS B.st x hx w h.c5 h.so
theorem chooseB {w : World} {X : Nat → Prop} {R nS nW : Nat} {B : Bd} (h : BdAt w X R nS nW B) (n : Int) (hn : Small n) (hno : n ∉ B.st) (hl : B.sp.length ≤ 1000000) (hnS : nS ≤ 1000000000000000) (hlv : 0 ≤ B.level ∧ B.level ≤ 1000000) :
   Calls Tryz.prog 205 #[.pointer (some ⟨R, 0, none⟩), .int .i64 n] w fun e w' => e = .returned (.tuple #[]) ∧ ∃ X', BdAt w' X' R (nS + 1) nW (B.choose n) ∧ Fr X w w' X' := by
 obtain ⟨S, W, vc, vs, wk, cg, cc, wv, h⟩ := h
 refine (choose_any w X R S W nS nW vc vs wk cg cc wv B h n hn hno hl hnS hlv).mono ?_
 rintro e w' ⟨rfl, X', vs', wk', hM, hF⟩
 exact ⟨rfl, X', ⟨S, W, vc, vs', wk', cg, cc, wv, hM⟩, hF⟩
structure Sx where
 B : Bd
 Q : Qu
 V : Nat
 most : Int
 lessons : Int
 marks : List Int
 lean : List Int
 round : Int
 left : Int
structure Ser (base : Nat) (w : World) (s : Nat) (XB XQ : Nat → Prop) (R nS nW q gp gw gm gl : Nat) (vh vl vp : Value) (S : Sx) : Prop where
 bk : w.heap[s]? = some (.cells #[.pointer (some ⟨R, 0, none⟩), .pointer (some ⟨q, 0, none⟩), .int .i64 S.V, vl, .int .i64 S.most, vp, .int .i64 S.lessons, .slice (some ⟨gm, 0, none⟩) S.marks.length S.marks.length, .slice (some ⟨gl, 0, none⟩) S.lean.length S.lean.length, .int .i64 S.round, .int .i64 S.left] 204 (0, 0))
 bd : BdAt w XB R nS nW S.B
 qu : Qm w XQ q gp gw vh S.Q
 ma : w.heap[gm]? = some (.cells (S.marks.map (Value.int .i64)).toArray 3 (0, 0))
 ln : w.heap[gl]? = some (.cells (S.lean.map (Value.int .i64)).toArray 3 (0, 0))
 bq : ∀ g, XB g → ¬ XQ g
 sb : ¬ XB s
 sq : ¬ XQ s
 mb : ¬ XB gm
 mq : ¬ XQ gm
 lb : ¬ XB gl
 lq : ¬ XQ gl
 ml : gm ≠ gl
 bx : ∀ g, XB g → base ≤ g
 qx : ∀ g, XQ g → base ≤ g
 sx : base ≤ s
 mx : base ≤ gm
 lx : base ≤ gl
section
variable {base : Nat} {w : World} {s : Nat} {XB XQ : Nat → Prop} {R nS nW q gp gw gm gl : Nat} {vh vl vp : Value} {S : Sx}
theorem Ser.s0 (h : Ser base w s XB XQ R nS nW q gp gw gm gl vh vl vp S) : w.cell? ⟨s, 0, none⟩ = some (.pointer (some ⟨R, 0, none⟩)) := by rw [Lib.cell_of_heap h.bk]; rfl
theorem Ser.s1 (h : Ser base w s XB XQ R nS nW q gp gw gm gl vh vl vp S) : w.cell? ⟨s, 1, none⟩ = some (.pointer (some ⟨q, 0, none⟩)) := by rw [Lib.cell_of_heap h.bk]; rfl
theorem Ser.s2 (h : Ser base w s XB XQ R nS nW q gp gw gm gl vh vl vp S) : w.cell? ⟨s, 2, none⟩ = some (.int .i64 S.V) := by rw [Lib.cell_of_heap h.bk]; rfl
theorem Ser.s3 (h : Ser base w s XB XQ R nS nW q gp gw gm gl vh vl vp S) : w.cell? ⟨s, 3, none⟩ = some vl := by rw [Lib.cell_of_heap h.bk]; rfl
theorem Ser.s5 (h : Ser base w s XB XQ R nS nW q gp gw gm gl vh vl vp S) : w.cell? ⟨s, 5, none⟩ = some vp := by rw [Lib.cell_of_heap h.bk]; rfl
theorem Ser.s8 (h : Ser base w s XB XQ R nS nW q gp gw gm gl vh vl vp S) : w.cell? ⟨s, 8, none⟩ = some (.slice (some ⟨gl, 0, none⟩) S.lean.length S.lean.length) := by rw [Lib.cell_of_heap h.bk]; rfl
theorem Ser.ss (h : Ser base w s XB XQ R nS nW q gp gw gm gl vh vl vp S) : s < w.heap.size ∧ gm < w.heap.size ∧ gl < w.heap.size := ⟨(Array.getElem?_eq_some_iff.1 h.bk).1, (Array.getElem?_eq_some_iff.1 h.ma).1, (Array.getElem?_eq_some_iff.1 h.ln).1⟩
theorem Ser.board (h : Ser base w s XB XQ R nS nW q gp gw gm gl vh vl vp S) {w1 : World} {XB' : Nat → Prop} {nS' nW' : Nat} {B' : Bd} (hb : BdAt w1 XB' R nS' nW' B') (hF : Fr XB w w1 XB') : Ser base w1 s XB' XQ R nS' nW' q gp gw gm gl vh vl vp { S with B := B' } := by
 have hin : ∀ g, g < w.heap.size → ¬ XB g → ¬ XB' g := fun g hg hn hx => hn (hF.fro g hg hx)
 obtain ⟨hs1, hs2, hs3⟩ := h.ss
 exact ⟨(hF.far s hs1 h.sb).trans h.bk, hb, h.qu.far hF.size fun g hg => hF.far g (h.qu.xb g hg) fun hx => h.bq g hx hg, (hF.far gm hs2 h.mb).trans h.ma, (hF.far gl hs3 h.lb).trans h.ln, fun g hx hq => h.bq g (hF.fro g (h.qu.xb g hq) hx) hq, hin s hs1 h.sb, h.sq, hin gm hs2 h.mb, h.mq, hin gl hs3 h.lb, h.lq, h.ml, fun g hx => by
   by_cases hg : g < w.heap.size
   · exact h.bx g (hF.fro g hg hx)
   · have := h.sx; omega, h.qx, h.sx, h.mx, h.lx⟩
theorem Ser.queue (h : Ser base w s XB XQ R nS nW q gp gw gm gl vh vl vp S) {w1 : World} {XQ' : Nat → Prop} {vh' : Value} {Q' : Qu} (hq : Qm w1 XQ' q gp gw vh' Q') (hF : Fr XQ w w1 XQ') : Ser base w1 s XB XQ' R nS nW q gp gw gm gl vh' vl vp { S with Q := Q' } := by
 have hin : ∀ g, g < w.heap.size → ¬ XQ g → ¬ XQ' g := fun g hg hn hx => hn (hF.fro g hg hx)
 obtain ⟨hs1, hs2, hs3⟩ := h.ss
 exact ⟨(hF.far s hs1 h.sq).trans h.bk, BdAt.apart h.bd hF.size fun g hg => hF.far g (BdAt.xb h.bd g hg) fun hx => h.bq g hg hx, hq, (hF.far gm hs2 h.mq).trans h.ma, (hF.far gl hs3 h.lq).trans h.ln, fun g hx hq' => h.bq g hx (hF.fro g (BdAt.xb h.bd g hx) hq'), h.sb, hin s hs1 h.sq, h.mb, hin gm hs2 h.mq, h.lb, hin gl hs3 h.lq, h.ml, h.bx, fun g hx => by
   by_cases hg : g < w.heap.size
   · exact h.qx g (hF.fro g hg hx)
   · have := h.sx; omega, h.sx, h.mx, h.lx⟩
theorem Ser.later (h : Ser base w s XB XQ R nS nW q gp gw gm gl vh vl vp S) {w1 : World} (hb : Below w.heap.size w w1) : Ser base w1 s XB XQ R nS nW q gp gw gm gl vh vl vp S := by
 obtain ⟨hs1, hs2, hs3⟩ := h.ss
 exact ⟨(hb.block s hs1).trans h.bk, BdAt.apart h.bd hb.size fun g hg => hb.block g (BdAt.xb h.bd g hg), h.qu.later hb, (hb.block gm hs2).trans h.ma, (hb.block gl hs3).trans h.ln, h.bq, h.sb, h.sq, h.mb, h.mq, h.lb, h.lq, h.ml, h.bx, h.qx, h.sx, h.mx, h.lx⟩
theorem Ser.bw (h : Ser base w s XB XQ R nS nW q gp gw gm gl vh vl vp S) {w1 : World} {XB' : Nat → Prop} (hF : Fr XB w w1 XB') : Below base w w1 := hF.below (Nat.le_trans h.sx (Nat.le_of_lt h.ss.1)) h.bx
theorem Ser.qw (h : Ser base w s XB XQ R nS nW q gp gw gm gl vh vl vp S) {w1 : World} {XQ' : Nat → Prop} (hF : Fr XQ w w1 XQ') : Below base w w1 := hF.below (Nat.le_trans h.sx (Nat.le_of_lt h.ss.1)) h.qx
end
end Go.Proofs.YtjhkecnnhddhbaaGreatDoor.Sr

namespace Go.Proofs.YtjhkecnnhddhbaaGreatDoor.Sr
open Go.RowKit Go.Maps Go.Proofs.YtjhkecnnhddhbaaGreatDoor.Pf
set_option maxRecDepth 100000
def lenAt (w : World) (q : Nat) : Nat := match w.cell? ⟨q, 0, none⟩ with
 | some (.slice _ n _) => n
 | _ => 0
theorem lenAt_qm {w : World} {X : Nat → Prop} {q gp gw : Nat} {vh : Value} {Q : Qu} (h : Qm w X q gp gw vh Q) : lenAt w q = Q.hp.length := by
 obtain ⟨p, c, rfl⟩ := h.sl
 unfold lenAt
 rw [h.c0]
def chN : Nat → Sx → Sx × Bool
 | 0, S => (S, false)
 | f + 1, S => if S.Q.at 0 ∈ S.B.st ∨ -(S.Q.at 0) ∈ S.B.st then chN f { S with Q := S.Q.hpop }
     else ({ S with Q := S.Q.hpop, B := S.B.choose (if 0 < S.lean.getD (S.Q.at 0).toNat 0 then S.Q.at 0 else -(S.Q.at 0)) }, true)
def Sx.choose (S : Sx) : Sx × Bool := chN S.Q.hp.length S
structure Sty (XB XQ : Nat → Prop) (w w' : World) (XB' XQ' : Nat → Prop) : Prop where
 size : w.heap.size ≤ w'.heap.size
 far : ∀ g, g < w.heap.size → ¬ XB g → ¬ XQ g → w'.heap[g]? = w.heap[g]?
 frb : ∀ g, g < w.heap.size → XB' g → XB g
 frq : ∀ g, g < w.heap.size → XQ' g → XQ g
section
variable {XB XQ XB' XQ' XB'' XQ'' : Nat → Prop} {w w' w'' : World}
theorem Sty.refl (XB XQ : Nat → Prop) (w : World) : Sty XB XQ w w XB XQ := ⟨Nat.le_refl _, fun _ _ _ _ => rfl, fun _ _ e => e, fun _ _ e => e⟩
theorem Sty.trans (h : Sty XB XQ w w' XB' XQ') (k : Sty XB' XQ' w' w'' XB'' XQ'') : Sty XB XQ w w'' XB'' XQ'' :=
 ⟨Nat.le_trans h.size k.size, fun g hg hb hq => (k.far g (Nat.lt_of_lt_of_le hg h.size) (fun e => hb (h.frb g hg e)) fun e => hq (h.frq g hg e)).trans (h.far g hg hb hq), fun g hg e => h.frb g hg (k.frb g (Nat.lt_of_lt_of_le hg h.size) e), fun g hg e => h.frq g hg (k.frq g (Nat.lt_of_lt_of_le hg h.size) e)⟩
theorem Sty.later (hb : Below w.heap.size w w') : Sty XB XQ w w' XB XQ := ⟨hb.size, fun g hg _ _ => hb.block g hg, fun _ _ e => e, fun _ _ e => e⟩
theorem Sty.board (hF : Fr XB w w' XB') : Sty XB XQ w w' XB' XQ := ⟨hF.size, fun g hg hb _ => hF.far g hg hb, fun g hg e => hF.fro g hg e, fun _ _ e => e⟩
theorem Sty.queue (hF : Fr XQ w w' XQ') : Sty XB XQ w w' XB XQ' := ⟨hF.size, fun g hg _ hq => hF.far g hg hq, fun _ _ e => e, fun g hg e => hF.fro g hg e⟩
end
def ChOut (base : Nat) (w : World) (s : Nat) (XB0 XQ0 : Nat → Prop) (R nS nW q gp gw gm gl : Nat) (vl vp : Value) (S : Sx) (e : Ending) (w' : World) : Prop :=
 e = .returned (.bool S.choose.2) ∧ (∃ XB XQ nS' vh, Ser base w' s XB XQ R nS' nW q gp gw gm gl vh vl vp S.choose.1 ∧ nS' ≤ nS + 1 ∧ Sty XB0 XQ0 w w' XB XQ) ∧ Below base w w'
set_option maxHeartbeats 4000000 in
theorem choose_s (base : Nat) (w : World) (s : Nat) (XB XQ : Nat → Prop) (R nS nW q gp gw gm gl : Nat) (vh vl vp : Value) (S : Sx) (h : Ser base w s XB XQ R nS nW q gp gw gm gl vh vl vp S) (n : Nat) (ok : QOk n S.Q) (hn : n ≤ 200000) (hln : S.lean.length = n) (hl : S.B.sp.length ≤ 1000000) (hnS : nS ≤ 1000000000000000) (hlv : 0 ≤ S.B.level ∧ S.B.level ≤ 1000000) :
   Calls Tryz.prog 181 #[.pointer (some ⟨s, 0, none⟩)] w (ChOut base w s XB XQ R nS nW q gp gw gm gl vl vp S) := by
 have HJ0 : Hid (∃ XQ1 vh, Ser base w s XB XQ1 R nS nW q gp gw gm gl vh vl vp S ∧ Sty XB XQ w w XB XQ1) := ⟨XQ, vh, h, Sty.refl _ _ _⟩
 have HOK := hide ok
 have HLN := hide hln
 clear h ok hln
 go_enter Tryz.func181, Tryz.ntmps181
 go_wp2_with fail
 go_loopw [] (fun wr => ∃ Q' : Qu, Hid ((∃ XQ1 vh, Ser base wr s XB XQ1 R nS nW q gp gw gm gl vh vl vp { S with Q := Q' } ∧ Sty XB XQ w wr XB XQ1) ∧ QOk n Q' ∧ Below base w wr ∧ chN Q'.hp.length { S with Q := Q' } = S.choose)) (fun wr => lenAt wr q)
 case atStart =>
   exact ⟨S.Q, HJ0.out, HOK.out, Below.refl _ _, rfl⟩
 case round =>
   obtain ⟨Q', HJ⟩ := hrel
   obtain ⟨XQ1, vh1, hs1, ht1⟩ := HJ.out.1
   have HT1 := hide ht1
   have s1 := hs1.s1
   have s0 := hs1.s0
   have s8 := hs1.s8
   simp only at s8
   have HS1 := hide hs1
   have HLEN := hide (lenAt_qm hs1.qu)
   have hL := len_any wr XQ1 q gp gw vh1 Q' hs1.qu
   clear hs1 ht1
   obtain ⟨k, hk⟩ : ∃ k, Q'.hp.length = k := ⟨_, rfl⟩
   rw [hk] at hL
   have HL := hide hL
   have HK := hide hk
   clear hL hk
   cases k with
   | zero =>
     have HCH : Hid (({ S with Q := Q' }, false) = S.choose) := by
       have h1 := HJ.out.2.2.2
       rw [HK.out] at h1
       exact h1
     go_wp2_with fail
     refine HL.out.mono ?_
     rintro e wa ⟨rfl, hba⟩
     have HSA := hide (HS1.out.later hba)
     have HTA := hide (HT1.out.trans (Sty.later hba))
     have HBA := hide (HJ.out.2.2.1.trans (hba.mono (Nat.le_trans HS1.out.sx (Nat.le_of_lt HS1.out.ss.1))))
     clear hba HL
     go_wp2
     go_ret
     exact ⟨by rw [← HCH.out]; rfl, ⟨XB, XQ1, nS, vh1, by rw [← HCH.out]; exact HSA.out, Nat.le_succ _, HTA.out⟩, HBA.out⟩
   | succ k =>
     have hpos : (0 : Int) < ((k + 1 : Nat) : Int) := by omega
     go_wp2_with fail
     refine HL.out.mono ?_
     rintro e wa ⟨rfl, hba⟩
     have HSA := hide (HS1.out.later hba)
     have HTA := hide (HT1.out.trans (Sty.later hba))
     have HBA := hide (HJ.out.2.2.1.trans (hba.mono (Nat.le_trans HS1.out.sx (Nat.le_of_lt HS1.out.ss.1))))
     have s1 := HSA.out.s1
     have HFI := hide (first_any wa XQ1 q gp gw vh1 Q' HSA.out.qu n HJ.out.2.1 (by rw [HK.out]; omega))
     have av := HJ.out.2.1.hp _ (Qu.at_mem (Q := Q') (i := 0) (by rw [HK.out]; omega))
     obtain ⟨v, hv⟩ : ∃ v : Nat, Q'.at 0 = v := ⟨(Q'.at 0).toNat, by omega⟩
     rw [hv] at HFI av
     have hvn : v < n := by omega
     have HOP := hide (hpop_ok HJ.out.2.1 (by rw [HK.out]; omega))
     have HSM : Hid (Small (v : Int)) := ⟨by omega, by omega⟩
     have HSN : Hid (Small (-(v : Int))) := ⟨by omega, by omega⟩
     have HCH0 : Hid ((if (v : Int) ∈ S.B.st ∨ -(v : Int) ∈ S.B.st then chN k { S with Q := Q'.hpop } else ({ S with Q := Q'.hpop, B := S.B.choose (if 0 < S.lean.getD v 0 then (v : Int) else -(v : Int)) }, true)) = S.choose) := by
       have h1 := HJ.out.2.2.2
       rw [HK.out] at h1
       simp only [chN] at h1
       rw [hv] at h1
       simp only [Int.toNat_natCast] at h1
       exact h1
     clear hba HL hv av s0 s8
     go_wp2_with fail
     refine HFI.out.mono ?_
     rintro e wb ⟨rfl, ⟨vh2, hqb⟩, hfb⟩
     have HSB : Hid (Ser base wb s XB XQ1 R nS nW q gp gw gm gl vh2 vl vp { S with Q := Q'.hpop }) := HSA.out.queue hqb hfb
     have HBB := hide (HBA.out.trans (HSA.out.qw hfb))
     have HTB := hide (HTA.out.trans (Sty.queue hfb))
     have HLB := hide (lenAt_qm hqb)
     have s0 := HSB.out.s0
     have HIS := hide (isSoB HSB.out.bd (v : Int) HSM.out)
     have HIN := hide (isNotB HSB.out.bd (v : Int) HSM.out)
     simp only at HIS HIN
     clear hqb hfb HFI HSA HBA s1
     by_cases h1 : (v : Int) ∈ S.B.st
     · have HNX : Hid ((∃ XQ2 vh, Ser base wb s XB XQ2 R nS nW q gp gw gm gl vh vl vp { S with Q := Q'.hpop } ∧ Sty XB XQ w wb XB XQ2) ∧ QOk n Q'.hpop ∧ Below base w wb ∧ chN Q'.hpop.hp.length { S with Q := Q'.hpop } = S.choose) := by
         refine ⟨⟨XQ1, vh2, HSB.out, HTB.out⟩, HOP.out.1, HBB.out, ?_⟩
         have h2 := HCH0.out
         rw [if_pos (.inl h1)] at h2
         rw [HOP.out.2, HK.out]
         exact h2
       rw [decide_eq_true h1] at HIS
       clear h1 HCH0
       go_wp2_with fail
       refine HIS.out.mono ?_
       rintro e wc ⟨rfl, rfl⟩
       go_wp2
       go_roundw
       case rel => exact ⟨Q'.hpop, HNX⟩
       case measure => rw [HLEN.out, HLB.out, HOP.out.2, HK.out]; omega
     · rw [decide_eq_false h1] at HIS
       by_cases h2 : -(v : Int) ∈ S.B.st
       · have HNX : Hid ((∃ XQ2 vh, Ser base wb s XB XQ2 R nS nW q gp gw gm gl vh vl vp { S with Q := Q'.hpop } ∧ Sty XB XQ w wb XB XQ2) ∧ QOk n Q'.hpop ∧ Below base w wb ∧ chN Q'.hpop.hp.length { S with Q := Q'.hpop } = S.choose) := by
           refine ⟨⟨XQ1, vh2, HSB.out, HTB.out⟩, HOP.out.1, HBB.out, ?_⟩
           have h3 := HCH0.out
           rw [if_pos (.inr h2)] at h3
           rw [HOP.out.2, HK.out]
           exact h3
         rw [decide_eq_true h2] at HIN
         clear h1 h2 HCH0
         go_wp2_with fail
         refine HIS.out.mono ?_
         rintro e wc ⟨rfl, rfl⟩
         go_wp2_with fail
         refine HIN.out.mono ?_
         rintro e wd ⟨rfl, rfl⟩
         go_wp2
         go_roundw
         case rel => exact ⟨Q'.hpop, HNX⟩
         case measure => rw [HLEN.out, HLB.out, HOP.out.2, HK.out]; omega
       · rw [decide_eq_false h2] at HIN
         have HCH1 : Hid (({ S with Q := Q'.hpop, B := S.B.choose (if 0 < S.lean.getD v 0 then (v : Int) else -(v : Int)) }, true) = S.choose) := by
           have h3 := HCH0.out
           rw [if_neg (fun h => h.elim h1 h2)] at h3
           exact h3
         have s8 := HSB.out.s8
         simp only at s8
         obtain ⟨la, -⟩ := map_cell HSB.out.ln (k := v) (by simp only; rw [HLN.out]; exact hvn)
         simp only at la
         have e5 : (v : Int) < (S.lean.length : Int) := by rw [HLN.out]; omega
         have e7 : (0 : Int) ≤ (v : Int) := by omega
         have HN1 := hide h1
         have HN2 := hide h2
         clear h1 h2 HCH0
         generalize S.lean.getD v 0 = lx at *
         by_cases hlx : 0 < lx
         · have HCB := hide (chooseB HSB.out.bd (v : Int) HSM.out HN1.out hl hnS hlv)
           rw [if_pos hlx] at HCH1
           go_wp2_with fail
           refine HIS.out.mono ?_
           rintro e wc ⟨rfl, rfl⟩
           go_wp2_with fail
           refine HIN.out.mono ?_
           rintro e wd ⟨rfl, rfl⟩
           go_wp2_with fail
           refine HCB.out.mono ?_
           rintro e we ⟨rfl, XB', hbd, hfd⟩
           have HSD := hide (HSB.out.board hbd hfd)
           have HBD := hide (HBB.out.trans (HSB.out.bw hfd))
           have HTD := hide (HTB.out.trans (Sty.board hfd))
           clear hbd hfd HCB
           go_wp2
           go_ret
           exact ⟨by rw [← HCH1.out]; rfl, ⟨XB', XQ1, nS + 1, vh2, by rw [← HCH1.out]; exact HSD.out, Nat.le_refl _, HTD.out⟩, HBD.out⟩
         · have HCB := hide (chooseB HSB.out.bd (-(v : Int)) HSN.out HN2.out hl hnS hlv)
           rw [if_neg hlx] at HCH1
           go_wp2_with fail
           refine HIS.out.mono ?_
           rintro e wc ⟨rfl, rfl⟩
           go_wp2_with fail
           refine HIN.out.mono ?_
           rintro e wd ⟨rfl, rfl⟩
           go_wp2_with fail
           refine HCB.out.mono ?_
           rintro e we ⟨rfl, XB', hbd, hfd⟩
           have HSD := hide (HSB.out.board hbd hfd)
           have HBD := hide (HBB.out.trans (HSB.out.bw hfd))
           have HTD := hide (HTB.out.trans (Sty.board hfd))
           clear hbd hfd HCB
           go_wp2
           go_ret
           exact ⟨by rw [← HCH1.out]; rfl, ⟨XB', XQ1, nS + 1, vh2, by rw [← HCH1.out]; exact HSD.out, Nat.le_refl _, HTD.out⟩, HBD.out⟩
end Go.Proofs.YtjhkecnnhddhbaaGreatDoor.Sr

namespace Go.Proofs.YtjhkecnnhddhbaaGreatDoor.Sr
open Go.RowKit Go.Maps Go.Proofs.YtjhkecnnhddhbaaGreatDoor.Pf
set_option maxRecDepth 100000
theorem make_bools0 (N : Nat) (h2 : N ≤ 1000000) (w : World) : (Instr.makeSlice 88 (.int .i64 (N : Int)) (.int .i64 (N : Int))).run Tryz.prog w = .ok (.slice (some ⟨w.heap.size, 0, none⟩) N N) (w.alloc (.cells ((List.replicate N false).map Value.bool).toArray 4)) := by
 obtain ⟨i0, hi, hz0, hz1, hz2⟩ := info_parts info4
 have h := run_makeSlice (P := Tryz.prog) w 88 4 i0 (.bool false) Tryz.underlying88 hi hz0 .i64 .i64 (N : Int) (N : Int) (by omega) (by omega) (by rw [hz1]; simp; omega) (by rw [hz2]; omega) (by omega)
 rw [hz1, Nat.mul_one, Int.toNat_natCast] at h
 rw [h]
 congr 3
 apply Array.toList_inj.1
 rw [show (Value.cells (.bool false)) = #[.bool false] from rfl, toList_madeCells_one]
 simp
def valN (B : Bd) (V k : Nat) : List Bool := (List.range V).map fun i => decide (i < k) && decide (((i + 1 : Nat) : Int) ∈ B.st)
theorem valN_zero (B : Bd) (V : Nat) : valN B V 0 = List.replicate V false := by
 apply List.ext_getElem
 · simp [valN]
 · intro i h1 h2
   simp [valN]
theorem valN_succ (B : Bd) (V k : Nat) : (valN B V k).set k (decide (((k + 1 : Nat) : Int) ∈ B.st)) = valN B V (k + 1) := by
 apply List.ext_getElem
 · simp [valN]
 · intro i h1 h2
   rw [List.getElem_set]
   simp only [valN, List.getElem_map, List.getElem_range]
   by_cases e : k = i
   · subst e
     simp
   · rw [if_neg e]
     have : decide (i < k) = decide (i < k + 1) := by simp; omega
     rw [this]
theorem map_setB (l : List Bool) (i : Nat) (x : Bool) : ((l.map Value.bool).toArray).setIfInBounds i (.bool x) = ((l.set i x).map Value.bool).toArray := by
 rw [List.setIfInBounds_toArray, List.map_set]
def VaOut (w : World) (V : Nat) (B : Bd) (e : Ending) (w' : World) : Prop := ∃ g, e = .returned (.slice (some ⟨g, 0, none⟩) V V) ∧ w'.heap[g]? = some (.cells ((valN B V V).map Value.bool).toArray 4 (0, 0)) ∧ w.heap.size ≤ g ∧ Below w.heap.size w w'
set_option maxHeartbeats 4000000 in
theorem values_s (base : Nat) (w : World) (s : Nat) (XB XQ : Nat → Prop) (R nS nW q gp gw gm gl : Nat) (vh vl vp : Value) (S : Sx) (h : Ser base w s XB XQ R nS nW q gp gw gm gl vh vl vp S) (hV : S.V ≤ 100000) :
   Calls Tryz.prog 182 #[.pointer (some ⟨s, 0, none⟩)] w (VaOut w S.V S.B) := by
 have HS := hide h
 have s2 := h.s2
 have hmk := make_bools0 S.V (by omega)
 have hbA : Below w.heap.size w (w.alloc (.cells ((List.replicate S.V false).map Value.bool).toArray 4)) := bal (Below.refl _ _) _
 have HJ0 : Hid ((w.alloc (.cells ((List.replicate S.V false).map Value.bool).toArray 4)).heap[w.heap.size]? = some (.cells ((valN S.B S.V 0).map Value.bool).toArray 4 (0, 0)) ∧ Below w.heap.size w (w.alloc (.cells ((List.replicate S.V false).map Value.bool).toArray 4))) := ⟨by rw [valN_zero]; exact heap_alloc_new w _, hbA⟩
 clear h hbA
 go_enter Tryz.func182, Tryz.ntmps182
 go_wp2_with fail
 have e0 : ((List.replicate S.V false).map Value.bool).toArray = Array.replicate S.V (Value.bool false) := by simp
 rw [e0] at HJ0
 generalize w.alloc (.cells (Array.replicate S.V (Value.bool false)) 4) = wa at *
 go_loopw [13] (fun t wr => ∃ k : Nat, k ≤ S.V ∧ t = .int .i64 k ∧ Hid (wr.heap[w.heap.size]? = some (.cells ((valN S.B S.V k).map Value.bool).toArray 4 (0, 0)) ∧ Below w.heap.size w wr)) (fun t _ => S.V - (intOf t).toNat)
 case atStart => exact ⟨0, Nat.zero_le _, rfl, HJ0.out.1, HJ0.out.2⟩
 case round =>
   obtain ⟨k, hk, rfl, HJ⟩ := hrel
   by_cases hlt : k < S.V
   · have hlti : (k : Int) < (S.V : Int) := by omega
     have e7 : (0 : Int) ≤ (k : Int) := by omega
     have w1 := wrap_in ((k : Int) + 1) (by omega) (by omega)
     have HSR := hide (HS.out.later HJ.out.2)
     have s0 := HSR.out.s0
     have HIS := hide (isSoB HSR.out.bd ((k : Int) + 1) ⟨by omega, by omega⟩)
     have hcv : wr.cell? ⟨w.heap.size, k, none⟩ = some (.bool ((valN S.B S.V k).getD k false)) := by
       rw [Lib.cell_of_heap HJ.out.1, List.getElem?_toArray, List.getElem?_map, List.getElem?_eq_getElem (by simp [valN]; exact hlt), List.getD_eq_getElem?_getD, List.getElem?_eq_getElem (by simp [valN]; exact hlt)]
       rfl
     have fcv : wr.frozen? ⟨w.heap.size, k, none⟩ = false := Lib.frozen_of_heap HJ.out.1 k
     have HNX : Hid ((wr.setCell ⟨w.heap.size, k, none⟩ (.bool (decide ((k : Int) + 1 ∈ S.B.st)))).heap[w.heap.size]? = some (.cells ((valN S.B S.V (k + 1)).map Value.bool).toArray 4 (0, 0)) ∧ Below w.heap.size w (wr.setCell ⟨w.heap.size, k, none⟩ (.bool (decide ((k : Int) + 1 ∈ S.B.st))))) := by
       refine ⟨?_, HJ.out.2.setCell (Nat.le_refl _) _⟩
       rw [heap_setCell_same _ _ _ _ _ _ HJ.out.1, map_setB, ← valN_succ S.B S.V k]
       rfl
     generalize (valN S.B S.V k).getD k false = yb at *
     generalize decide ((k : Int) + 1 ∈ S.B.st) = db at *
     go_wp2_with fail
     refine HIS.out.mono ?_
     rintro e wc ⟨rfl, rfl⟩
     go_wp2
     go_roundw
     case rel => exact ⟨k + 1, hlt, by go_num, HNX⟩
     case measure => simp [intOf]; omega
   · have hlti : ¬ (k : Int) < (S.V : Int) := by omega
     have HK : Hid (k = S.V) := by unfold Hid; omega
     clear hlt
     go_wp2
     go_ret
     exact ⟨_, rfl, by have := HJ.out.1; rw [HK.out] at this; exact this, Nat.le_refl _, HJ.out.2⟩
end Go.Proofs.YtjhkecnnhddhbaaGreatDoor.Sr
