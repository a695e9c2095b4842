/- A board: those who watch a number that is not so any more are looked at. -/
import Derived.Test.YtmambfdimeeijaaGreatDoorPpM
import Derived.Test.YtmambfdimeeijaaGreatDoorPiM
import Derived.Test.YtmambfdimeeijaaGreatDoorPbM
import Derived.Lib.SlicesCompact
namespace Go.Proofs.YtmambfdimeeijaaGreatDoor.Pf
open Go.RowKit Go.Maps Go.WideMaps
set_option maxRecDepth 100000
theorem Num.small {V x : Int} (h : Num V x) (hV : V ≤ 200000) : Small x := ⟨by have := h.2.1; omega, by have := h.2.2; omega⟩
def LkJ (w : World) (X : Nat → Prop) (R S W nS nW : Nat) (vc : Value) (cg cc : Nat → Nat) (v0 : Value) (V nt : Int) (D : List Int) (ch : Int → Prop) (B0 : Bd) (l : List (Nat × Int)) (k : Nat) (kept : List (Nat × Int)) (wr : World) : Prop :=
 ∃ X' nS' nW' vs' wk' wv' B, Mb wr X' R S W nS' nW' vc vs' wk' cg cc wv' B ∧ Fr X w wr X' ∧ wv' nt = v0 ∧ Lk V nt D ch B0 l k kept B ∧ nS' + B0.sp.length ≤ nS + B.sp.length ∧ nW' ≤ nW + k ∧ B.cl.length = B0.cl.length
def LkOut (w : World) (X : Nat → Prop) (R S W nS nW : Nat) (vc : Value) (cg cc : Nat → Nat) (B0 : Bd) (nt : Int) (e : Ending) (w' : World) : Prop :=
 e = .returned (.int .i64 (B0.lookAt nt).2) ∧ ∃ X' nS' nW' vs' wk' wv', Mb w' X' R S W nS' nW' vc vs' wk' cg cc wv' (B0.lookAt nt).1 ∧ Fr X w w' X' ∧ nS' + B0.sp.length ≤ nS + (B0.lookAt nt).1.sp.length ∧ nW' ≤ nW + 800001
theorem set_dropK {l kept : List (Nat × Int)} {k : Nat} (hk : kept.length ≤ k) (p : Nat × Int) : ((kept ++ l.drop kept.length).set kept.length p).drop (k + 1) = l.drop (k + 1) := by
 rw [List.drop_set, if_pos (by omega), List.drop_append, List.drop_eq_nil_of_le (by omega), List.nil_append, List.drop_drop, show kept.length + (k + 1 - kept.length) = k + 1 by omega]
theorem two_newsP (x y : Int) (w : World) : ∀ j u, ([.int .i64 x, .int .i64 y] : List Value)[j]? = some u → (w.alloc (.cells #[.int .i64 x, .int .i64 y] 233)).cell? ((⟨w.heap.size, 0, none⟩ : Addr).add j) = some u := fun j u hj => by
 match j, hj with
 | 0, hj => simp at hj; subst hj; simp [go_sem, Addr.add]
 | 1, hj => simp at hj; subst hj; simp [go_sem, Addr.add]
set_option maxHeartbeats 4000000 in
theorem lookAt_any (w : World) (X : Nat → Prop) (R S W nS nW : Nat) (vc vs : Value) (wk : Int) (cg cc : Nat → Nat) (wv : Int → Value) (B0 : Bd) (h : Mb w X R S W nS nW vc vs wk cg cc wv B0) (V nt : Int) (D : List Int) (ch : Int → Prop) (hLI : LI V nt D ch B0 [] (B0.wt nt)) (hV : V ≤ 200000) (hnt : Small nt) (hcl : B0.cl.length ≤ 800000) (hnS : nS ≤ 100000000000000) (hnW : nW ≤ 900000000000000000) :
   Calls Tryz.prog 201 #[.pointer (some ⟨R, 0, none⟩), .int .i64 nt] w (LkOut w X R S W nS nW vc cg cc B0 nt) := by
 have hsl := row_sl (h.wl nt)
 have hwf : Wf V B0 := by
   have := hLI.wf
   rw [List.nil_append, upd_self] at this
   exact this
 have HL := hide (hwf.wtLen nt)
 obtain ⟨l, hl⟩ : ∃ l, B0.wt nt = l := ⟨_, rfl⟩
 obtain ⟨p, n0, cap, hv, hn0, hcap⟩ : ∃ p n0 cap, wv nt = .slice p n0 cap ∧ n0 = l.length ∧ n0 ≤ cap := by
   rcases (h.wl nt).2 with ⟨e, e0⟩ | ⟨g, c, cur, e, _, _, hc, _⟩
   · exact ⟨none, 0, 0, e, by rw [← hl]; omega, Nat.le_refl _⟩
   · exact ⟨_, _, _, e, by rw [hl], hc⟩
 have HJ0 : Hid (LkJ w X R S W nS nW vc cg cc (.slice p n0 cap) V nt D ch B0 l 0 [] w) := by
   refine ⟨X, nS, nW, vs, wk, wv, B0, h, Fr.refl _ _, hv, ?_, Nat.le_refl _, Nat.le_refl _, rfl⟩
   rw [← hl]
   exact Lk.begin hLI
 have c6 := h.c6
 have hlk := look104 h.wm hnt hsl
 rw [hv] at hlk
 rw [hl] at HL
 have hn0l : n0 ≤ 800000 := by have := HL.out; omega
 have HN0 := hide hn0
 clear h hLI hsl hl hwf hv hn0
 go_enter Tryz.func201, Tryz.ntmps201
 go_wp2_with fail
 go_loopw [6, 7, 20] (fun s6 s7 s20 wr => ∃ (k K : Nat) (kept : List (Nat × Int)), k ≤ n0 ∧ K ≤ k ∧ s6 = .slice p K cap ∧ s7 = .int .i64 (-1) ∧ s20 = .int .i64 k ∧ Hid (kept.length = K ∧ LkJ w X R S W nS nW vc cg cc (.slice p n0 cap) V nt D ch B0 l k kept wr)) (fun _ _ t _ => n0 - (intOf t).toNat)
 case atStart => exact ⟨0, 0, [], Nat.zero_le _, Nat.le_refl _, rfl, rfl, rfl, rfl, HJ0.out⟩
 case round =>
   obtain ⟨k, K, kept, hk, hKk, rfl, rfl, rfl, HJ⟩ := hrel
   clear c6 hlk HJ0
   obtain ⟨X1, nS1, nW1, vs1, wk1, wv1, B, hM, hF, hv1, hLk, hnS1, hnW1, hcl1⟩ := HJ.out.2
   have HKL := hide HJ.out.1
   have HM := hide hM
   have HF := hide hF
   have HV1 := hide hv1
   have HLK := hide hLk
   have HNS := hide hnS1
   have HNW := hide hnW1
   have HCL := hide hcl1
   clear hM hF hv1 hLk hnS1 hnW1 hcl1 HJ
   by_cases hlt : k < n0
   · have hlti : (k : Int) < (n0 : Int) := by omega
     have hkl : k < l.length := by have := HN0.out; omega
     have hwl : (B.wt nt).length = l.length := by rw [HLK.out.wt, List.length_append, List.length_drop]; have := HKL.out; omega
     obtain ⟨g, hp⟩ : ∃ g, p = some ⟨g, 0, none⟩ := by
       obtain ⟨g, c, e, _⟩ := HM.out.wtAt (nt := nt) (j := k) (by omega)
       rw [HV1.out] at e
       injection e with e
       exact ⟨g, e⟩
     subst hp
     obtain ⟨i, o, hio⟩ : ∃ i o, l[k]? = some (i, o) := ⟨_, _, List.getElem?_eq_getElem hkl⟩
     have hat : (B.wt nt)[k]'(by omega) = (i, o) := by
       have h1 : (B.wt nt)[k]? = some (i, o) := by
         rw [HLK.out.wt, List.getElem?_append_right (by have := HKL.out; omega), List.getElem?_drop, ← hio]
         congr 1
         have := HKL.out
         omega
       rw [List.getElem?_eq_getElem (by omega)] at h1
       injection h1
     obtain ⟨x0, x1⟩ := HM.out.wtCell HV1.out (j := k) (by omega)
     rw [hat] at x0 x1
     simp only at x0 x1
     have HIO := hide hio
     have HWL := hide hwl
     have hal : Below wr.heap.size wr (wr.alloc (.cells #[.int .i64 i, .int .i64 o] 233)) := bal (Below.refl _ _) _
     have b0 : (wr.alloc (.cells #[.int .i64 i, .int .i64 o] 233)).cell? ⟨wr.heap.size, 0, none⟩ = some (.int .i64 i) := by simp [go_sem]
     have b1 : (wr.alloc (.cells #[.int .i64 i, .int .i64 o] 233)).cell? ⟨wr.heap.size, 1, none⟩ = some (.int .i64 o) := by simp [go_sem]
     have bf : (wr.alloc (.cells #[.int .i64 i, .int .i64 o] 233)).frozen? ⟨wr.heap.size, 1, none⟩ = false := by simp [go_sem]
     have HM1 := hide (HM.out.later hal)
     have HF1 : Hid (Fr X w (wr.alloc (.cells #[.int .i64 i, .int .i64 o] 233)) X1) := HF.out.trans (Fr.quiet hal)
     have HBW : Hid (w.heap.size ≤ wr.heap.size) := HF.out.size
     have HBX : Hid (¬ X1 wr.heap.size) := fun e => by have := HM.out.xb _ e; omega
     have HSZ : Hid (wr.heap.size < (wr.alloc (.cells #[.int .i64 i, .int .i64 o] 233)).heap.size) := by simp [Hid]
     clear hal hat hio hwl
     go_upto_region 7 with fail
     generalize wr.alloc (.cells #[.int .i64 i, .int .i64 o] 233) = w1 at *
     generalize wr.heap.size = bx at *
     clear x0 x1 HM HF
     have hgR : Hid (bx ≠ R) := fun e => HBX.out (e ▸ HM1.out.xr)
     have HM2 := hide (HM1.out.work (wrap64 (wk1 + 1)))
     have HF2 : Hid (Fr X w (w1.setCell ⟨R, 4, none⟩ (.int .i64 (wrap64 (wk1 + 1)))) X1) := HF1.out.trans (Fr.set (q := ⟨R, 4, none⟩) HM1.out.xr _)
     have d0 : (w1.setCell ⟨R, 4, none⟩ (.int .i64 (wrap64 (wk1 + 1)))).cell? ⟨bx, 0, none⟩ = some (.int .i64 i) := cell_set_far b0 hgR.out
     have d1 : (w1.setCell ⟨R, 4, none⟩ (.int .i64 (wrap64 (wk1 + 1)))).cell? ⟨bx, 1, none⟩ = some (.int .i64 o) := cell_set_far b1 hgR.out
     have df : (w1.setCell ⟨R, 4, none⟩ (.int .i64 (wrap64 (wk1 + 1)))).frozen? ⟨bx, 1, none⟩ = false := by rw [World.frozen?_setCell]; exact bf
     have HSZ2 : Hid (bx < (w1.setCell ⟨R, 4, none⟩ (.int .i64 (wrap64 (wk1 + 1)))).heap.size) := by unfold Hid; rw [size_set]; exact HSZ.out
     have c4 := HM1.out.c4
     have f4 := HM1.out.fz 4
     go_upto_region 8 with fail
     clear c4 f4 b0 b1 bf HSZ HM1 HF1
     generalize w1.setCell ⟨R, 4, none⟩ (.int .i64 (wrap64 (wk1 + 1))) = w2 at *
     generalize wrap64 (wk1 + 1) = wk2 at *
     obtain ⟨a, b, r, hc, hwat, hnd, hl2, hnum, hom⟩ := HLK.out.there HIO.out
     have hso : Small o := (hnum o hom).small hV
     have HSO := hide (isSo_any R S nS1 B.st o hso w2 HM2.out.c5 HM2.out.so)
     have HC := hide (And.intro hc (And.intro hwat (And.intro hnd (And.intro hl2 hnum))))
     have hKl : K < (B.wt nt).length := by have := HWL.out; omega
     have HKW := hide hKl
     clear hc hwat hnd hl2 hnum hom hKl
     by_cases ho : o ∈ B.st
     · have hd : decide (o ∈ B.st) = true := by simpa using ho
       rw [hd] at HSO
       have hno : decide (-o ∈ B.st) = false := decide_eq_false (HLK.out.li.wf.sc o ho)
       obtain ⟨hA1, hA2, hA3, hA4⟩ := HM2.out.appW HV1.out HKW.out i o
       have HM3 := hide hA1
       have HF3 := hide (HF2.out.trans hA2)
       have HA := hide (And.intro hA3 hA4)
       have e0 := hA2.cell d0 HBX.out
       have e1 := hA2.cell d1 HBX.out
       have HSO3 := hide (isSo_any R S nS1 B.st o hso _ HM3.out.c5 HM3.out.so)
       have HIN3 := hide (isNot_any R S nS1 B.st o hso _ HM3.out.c5 HM3.out.so)
       rw [hd] at HSO3
       rw [hno] at HIN3
       have hk' := HLK.out.keep HIO.out ho
       rw [HKL.out] at hk'
       have HK' := hide hk'
       have hroom : K + 1 ≤ cap := by omega
       have HNE := hide (two_newsP i o w2)
       clear hA1 hA2 hA3 hA4 hk' hd hno ho
       go_upto_region 12 with (first | (go_at_call 210; refine HSO.out.mono ?_; rintro e w' ⟨rfl, hw'⟩; obtain rfl : w2 = w' := hw'.symm) | (at_builtin; refine wpList_append_in _ rfl _ _ rfl g K cap rfl ⟨w2.heap.size, 0, none⟩ 1 1 [.int .i64 i, .int .i64 o] rfl rfl HNE.out (two_cell i o) hroom HA.out.1 HA.out.2 ?_))
       generalize (w2.alloc (.cells #[.int .i64 i, .int .i64 o] 233)).setCells g (K * 2) [.int .i64 i, .int .i64 o] = w3 at *
       clear HA HSO HM2 HF2 d0 d1 df HSZ2
       go_wp2_with (first | (go_at_call 211; refine HIN3.out.mono ?_; rintro e w' ⟨rfl, hw'⟩; obtain rfl : w3 = w' := hw'.symm) | (go_at_call 210; refine HSO3.out.mono ?_; rintro e w' ⟨rfl, hw'⟩; obtain rfl : w3 = w' := hw'.symm))
       go_roundw
       case rel => exact ⟨k + 1, K + 1, kept ++ [(i, o)], by omega, by omega, rfl, rfl, by go_num, by have := HKL.out; simp; omega, X1, nS1, nW1, vs1, wk2, wv1, _, HM3.out, HF3.out, HV1.out, HK'.out, HNS.out, by have := HNW.out; omega, HCL.out⟩
       case measure => simp [intOf]; omega
     · have hd : decide (o ∈ B.st) = false := decide_eq_false ho
       rw [hd] at HSO
       have hi : i < B.cl.length := (List.getElem?_eq_some_iff.1 HC.out.1).1
       have hwtl : ∀ x, (B.wt x).length ≤ 1000000 := fun x => by
         have := HLK.out.wtLen 800000 (by have := HN0.out; omega) (by have := HCL.out; omega) x
         omega
       have HTU := hide (turn_any w2 X1 R S W nS1 nW1 vc vs1 wk2 cg cc wv1 B HM2.out i nt a b r HC.out.1 HC.out.2.1 HC.out.2.2.1 (fun x hx => (HC.out.2.2.2.2 x hx).small hV) HC.out.2.2.2.1 hwtl (by have := HNW.out; omega))
       obtain ⟨o', ht⟩ := turned (B := B) HC.out.2.1 HC.out.2.2.1
       have HHO := hide ho
       clear hd hwtl ho
       cases htc : B.turnC nt (a :: b :: r) with
       | mk c' t =>
         rw [htc] at ht HTU
         simp only at ht
         have HT := hide ht
         have HTC := hide htc
         cases t with
         | some x =>
           have HTB : Hid (B.turn i nt = { B with cl := B.cl.set i c', wt := upd B.wt x (B.wt x ++ [(i, c'.getD 0 0)]) }) := by unfold Hid Bd.turn; rw [getD_some HC.out.1, htc]
           have HK' := hide (HLK.out.turn HIO.out HHO.out HC.out.1 htc ht)
           clear ht htc
           go_upto_region 9 with (go_at_call 210; refine HSO.out.mono ?_; rintro e w' ⟨rfl, hw'⟩; obtain rfl : w2 = w' := hw'.symm)
           go_wp2_with fail
           refine HTU.out.mono ?_
           rintro e w3 ⟨rfl, X3, wk3, nW3, wv3, hnW3, hwv3, hM3, hF3⟩
           rw [HTB.out] at hM3
           have HM3 := hide hM3
           have HF3 := hide (HF2.out.trans hF3)
           have HN3 := hide (And.intro hnW3 hwv3)
           clear hM3 hF3 hnW3 hwv3
           simp only [Option.isSome_some]
           go_wp2_with fail
           go_roundw
           case rel => exact ⟨k + 1, K, kept, by omega, by omega, rfl, rfl, by go_num, HKL.out, X3, nS1, nW3, vs1, wk3, wv3, _, HM3.out, HF3.out, HN3.out.2.trans HV1.out, HK'.out, HNS.out, by have := HNW.out; have := HN3.out.1; omega, by simpa using HCL.out⟩
           case measure => simp [intOf]; omega
         | none =>
           have HTB : Hid (B.turn i nt = { B with cl := B.cl.set i c' }) := by unfold Hid Bd.turn; rw [getD_some HC.out.1, htc]
           clear ht htc
           go_upto_region 9 with (go_at_call 210; refine HSO.out.mono ?_; rintro e w' ⟨rfl, hw'⟩; obtain rfl : w2 = w' := hw'.symm)
           go_wp2_with fail
           refine HTU.out.mono ?_
           rintro e w3 ⟨rfl, X3, wk3, nW3, wv3, hnW3, hwv3, hM3, hF3⟩
           rw [HTB.out] at hM3
           have HM3 := hide hM3
           have HF3 := hide (HF2.out.trans hF3)
           have HN3 := hide (And.intro hnW3 hwv3)
           have HV3 := hide (hwv3.trans HV1.out)
           have HBX3 : Hid (¬ X3 bx) := fun e => HBX.out (hF3.fro bx HSZ2.out e)
           have e0 := hF3.cell d0 HBX.out
           have e1 := hF3.cell d1 HBX.out
           have ef : w3.frozen? ⟨bx, 1, none⟩ = false := by
             have hh := hF3.far bx HSZ2.out HBX.out
             have := df
             unfold World.frozen? at this ⊢
             rw [hh]; exact this
           have c0 := hM3.c0
           obtain ⟨gr, gcap, hvc, r0⟩ := hM3.rowAt (i := i) (by simpa using hi)
           have hgd : (B.cl.set i c').getD i [] = c' := by rw [getD_set hi]; simp
           simp only [hgd, List.length_set] at r0 hvc
           have hlc : 0 < c'.length := by rw [HT.out.len]; simp
           have x0 := hM3.ints (i := i) (by simpa using hi) (j := 0) (by simp only [hgd]; exact hlc)
           simp only [hgd] at x0
           have hfst : c'[0] = o' := by
             have := HT.out.fst
             rw [List.getD, List.getElem?_eq_getElem hlc] at this
             exact this
           rw [hfst] at x0
           clear hgd hfst hM3 hF3 hnW3 hwv3
           obtain ⟨n2, hn2⟩ : ∃ n2, c'.length = n2 := ⟨_, rfl⟩
           rw [hn2] at r0 hlc
           have hlci : (0 : Int) < (n2 : Int) := by omega
           have hii : (i : Int) < (B.cl.length : Int) := by omega
           rw [hvc] at c0
           clear hn2
           simp only [Option.isSome_none]
           clear HSO HTU d0 d1 df HM2 HF2
           have n1 : R ≠ bx := fun e => HBX3.out (e ▸ HM3.out.xr)
           have n2' : gr ≠ bx := fun e => HBX3.out (HM3.out.xc bx (by rw [hvc, e]; rfl))
           have n3 : cg i ≠ bx := fun e => HBX3.out (e ▸ HM3.out.xi i (by simpa using hi))
           have y0 : (w3.drew.setCell ⟨bx, 1, none⟩ (.int .i64 o')).cell? ⟨R, 0, none⟩ = some (.slice (some ⟨gr, 0, none⟩) B.cl.length gcap) := cell_set_far c0 n1
           have y1 : (w3.drew.setCell ⟨bx, 1, none⟩ (.int .i64 o')).cell? ⟨bx, 0, none⟩ = some (.int .i64 i) := (World.cell?_setCell_other _ _ _ _ (by simp)).trans e0
           have y2 : (w3.drew.setCell ⟨bx, 1, none⟩ (.int .i64 o')).cell? ⟨gr, i, none⟩ = some (.slice (some ⟨cg i, 0, none⟩) n2 (cc i)) := cell_set_far r0 n2'
           have y3 : (w3.drew.setCell ⟨bx, 1, none⟩ (.int .i64 o')).cell? ⟨cg i, 0, none⟩ = some (.int .i64 o') := cell_set_far x0 n3
           have y4 : (w3.drew.setCell ⟨bx, 1, none⟩ (.int .i64 o')).cell? ⟨bx, 1, none⟩ = some (.int .i64 o') := World.cell?_setCell_same _ _ _ e1
           have HM4 : Hid (Mb (w3.setCell ⟨bx, 1, none⟩ (.int .i64 o')).drew X3 R S W nS1 nW3 vc vs1 wk3 cg cc wv3 { B with cl := B.cl.set i c' }) := HM3.out.apart (Nat.le_of_eq (size_set w3 ⟨bx, 1, none⟩ (.int .i64 o')).symm) (fun g hg => Below.heap_setCell _ _ _ _ (fun e => HBX3.out ((show g = bx from e) ▸ hg)))
           have HF4 : Hid (Fr X w (w3.setCell ⟨bx, 1, none⟩ (.int .i64 o')).drew X3) := HF3.out.newbox HBW.out 1 _
           go_upto_region 10 with fail
           go_region_held3 (fun w' => w'.cell? ⟨R, 0, none⟩ = some (.slice (some ⟨gr, 0, none⟩) B.cl.length gcap) ∧ w'.cell? ⟨bx, 0, none⟩ = some (.int .i64 i) ∧ w'.cell? ⟨gr, i, none⟩ = some (.slice (some ⟨cg i, 0, none⟩) n2 (cc i)) ∧ w'.cell? ⟨cg i, 0, none⟩ = some (.int .i64 o')) (first | exact ⟨c0, e0, r0, x0⟩ | exact ⟨y0, y1, y2, y3⟩ | go_keep) (fail)
           have z0 : (w3.setCell ⟨bx, 1, none⟩ (.int .i64 o')).drew.cell? ⟨bx, 0, none⟩ = some (.int .i64 i) := y1
           have z1 : (w3.setCell ⟨bx, 1, none⟩ (.int .i64 o')).drew.cell? ⟨bx, 1, none⟩ = some (.int .i64 o') := y4
           clear y0 y1 y2 y3 y4 c0 e0 e1 ef r0 x0 n1 n2' n3
           generalize (w3.setCell ⟨bx, 1, none⟩ (.int .i64 o')).drew = w4 at *
           have ho'm : o' ∈ a :: b :: r := (HT.out.mem o').1 (by
             have h1 := HT.out.fst
             have h2 : 0 < c'.length := by rw [HT.out.len]; simp
             rw [List.getD, List.getElem?_eq_getElem h2] at h1
             exact h1 ▸ List.getElem_mem h2)
           have hso' : Small o' := (HC.out.2.2.2.2 o' ho'm).small hV
           obtain ⟨hA1, hA2, hA3, hA4⟩ := HM4.out.appW HV3.out HKW.out i o'
           have HM5 := hide hA1
           have HF5 := hide (HF4.out.trans hA2)
           have HA := hide (And.intro hA3 hA4)
           have q0 := hA2.cell z0 HBX3.out
           have q1 := hA2.cell z1 HBX3.out
           have HSO5 := hide (isSo_any R S nS1 B.st o' hso' _ HM5.out.c5 HM5.out.so)
           have HIN5 := hide (isNot_any R S nS1 B.st o' hso' _ HM5.out.c5 HM5.out.so)
           have hroom : K + 1 ≤ cap := by omega
           have HNE := hide (two_newsP i o' w4)
           clear hA1 hA2 hA3 hA4 ho'm
           go_upto_region 12 with (at_builtin; refine wpList_append_in _ rfl _ _ rfl g K cap rfl ⟨w4.heap.size, 0, none⟩ 1 1 [.int .i64 i, .int .i64 o'] rfl rfl HNE.out (two_cell i o') hroom HA.out.1 HA.out.2 ?_)
           generalize (w4.alloc (.cells #[.int .i64 i, .int .i64 o'] 233)).setCells g (K * 2) [.int .i64 i, .int .i64 o'] = w5 at *
           clear HA HNE HM3 HF3 HM4 HF4 z0 z1
           by_cases h1 : -o' ∈ B.st
           · have hd1 : decide (-o' ∈ B.st) = true := decide_eq_true h1
             rw [hd1] at HIN5
             have hA0 := HM5.out.restW (nt := nt) HV3.out (K := K + 1) (k := k + 1) (by omega) (by omega)
             simp only [upd_same, upd_twice] at hA0
             have hdr : ((B.wt nt).set K (i, o')).drop (k + 1) = l.drop (k + 1) := by
               rw [HLK.out.wt, ← HKL.out]
               exact set_dropK (by have := HKL.out; omega) _
             rw [hdr] at hA0
             obtain ⟨hR1, hR2, hR3, hR4, hR5, hR6, hR7⟩ := hA0
             have htk : (over ((B.wt nt).set K (i, o')) (K + 1) (l.drop (k + 1))).take (K + 1 + (n0 - (k + 1))) = (kept ++ [(i, o')]) ++ l.drop (k + 1) := by
               have hl1 : (l.drop (k + 1)).length = n0 - (k + 1) := by rw [List.length_drop, HN0.out]
               have := over_take (l.drop (k + 1)) ((B.wt nt).set K (i, o')) (K + 1) (by rw [List.length_set, HWL.out, hl1]; have := HN0.out; omega)
               rw [hl1] at this
               rw [this, HLK.out.wt, ← HKL.out, set_keep (k := k) (by have := HKL.out; omega) (by omega)]
               rw [show kept.length + 1 = (kept ++ [(i, o')]).length by simp, List.take_left']
               rfl
             have HM6 := hide hR1
             have HF6 := hide (HF5.out.trans hR2)
             have HR := hide (And.intro hR3 (And.intro hR4 (And.intro hR5 (And.intro hR6 hR7))))
             have p0 := hR2.cell q0 HBX3.out
             have c6 := HM6.out.c6
             have HE := hide (HM6.out.endW nt hnt HV3.out (K + 1 + (n0 - (k + 1))) (by omega) (by have := HNW.out; have := HN3.out.1; unfold maxLen; omega))
             simp only [upd_same, upd_twice, htk] at HE
             have HLF := hide (HLK.out.fail HIO.out HHO.out HC.out.1 HTC.out HT.out h1 B.wt (fun _ _ => rfl))
             have hroom2 : K + 1 + (n0 - (k + 1)) ≤ cap := by omega
             have hk1 : k + 1 ≤ n0 := by omega
             have hk1c : k + 1 ≤ cap := by omega
             have hk1i : ((k + 1 : Nat) : Int) ≤ (n0 : Int) := by omega
             have hk1ci : ((k + 1 : Nat) : Int) ≤ (cap : Int) := by omega
             have hnci : (n0 : Int) ≤ (cap : Int) := by omega
             clear hdr hR1 hR2 hR3 hR4 hR5 hR6 hR7 htk hd1 h1
             go_upto_region 13 with (go_at_call 211; refine HIN5.out.mono ?_; rintro e w' ⟨rfl, hw'⟩; obtain rfl : w5 = w' := hw'.symm)
             have HVA : Hid (n0 - (k + 1) = 0 → ∀ (ad : Addr) j u, (flatW (l.drop (k + 1)))[j]? = some u → w5.cell? (ad.add j) = some u) := fun h0 ad j u hj => by
               have h1 := (List.getElem?_eq_some_iff.1 hj).1
               rw [HR.out.1, h0] at h1
               omega
             by_cases hce : cap = k + 1
             · have hld : l.drop (k + 1) = [] := List.drop_eq_nil_of_le (by have := HN0.out; omega)
               have hE5 := HM5.out.endW nt hnt HV3.out (K + 1) (by omega) (by have := HNW.out; have := HN3.out.1; unfold maxLen; omega)
               have htk5 : ((B.wt nt).set K (i, o')).take (K + 1) = kept ++ [(i, o')] := by
                 rw [HLK.out.wt, ← HKL.out, set_keep (k := k) (by have := HKL.out; omega) (by omega)]
                 rw [show kept.length + 1 = (kept ++ [(i, o')]).length by simp, List.take_left']
                 rfl
               simp only [upd_same, upd_twice, htk5, hce] at hE5
               obtain ⟨w7, hrun, hM7, hF7⟩ := hE5
               rw [hld, List.append_nil] at HLF
               have HM7 := hide hM7
               have HF7 := hide (HF5.out.trans hF7)
               have c65 := HM5.out.c6
               have hn0e : n0 = k + 1 := by omega
               clear hM7 hF7 htk5 hld HM6 HF6 HR p0 c6 HE hroom2 HVA
               go_wp2_with fail
               go_ret
               unfold LkOut
               rw [HLF.out]
               exact ⟨rfl, _, _, _, _, _, _, HM7.out, HF7.out, HNS.out, by have := HNW.out; have := HN3.out.1; omega⟩
             · obtain ⟨w7, hrun, hM7, hF7⟩ := HE.out
               have HM7 := hide hM7
               have HF7 := hide (HF6.out.trans hF7)
               clear hM7 hF7
               go_wp2_with (at_builtin; refine wpList_append_in _ rfl _ _ rfl g (K + 1) cap rfl _ (n0 - (k + 1)) _ (flatW (l.drop (k + 1))) rfl HR.out.1 HR.out.2.1 HR.out.2.2.1 hroom2 HR.out.2.2.2.1 HR.out.2.2.2.2 ?_)
               go_ret
               unfold LkOut
               rw [HLF.out]
               exact ⟨rfl, _, _, _, _, _, _, HM7.out, HF7.out, HNS.out, by have := HNW.out; have := HN3.out.1; omega⟩
           · have hd1 : decide (-o' ∈ B.st) = false := decide_eq_false h1
             rw [hd1] at HIN5
             by_cases h2 : o' ∈ B.st
             · have hd2 : decide (o' ∈ B.st) = true := decide_eq_true h2
               rw [hd2] at HSO5
               have hk' := HLK.out.stay HIO.out HHO.out HC.out.1 HTC.out HT.out h1 h2
               rw [HKL.out] at hk'
               have HK' := hide hk'
               clear hk' hd1 hd2 h1 h2
               go_wp2_with (first | (go_at_call 211; refine HIN5.out.mono ?_; rintro e w' ⟨rfl, hw'⟩; obtain rfl : w5 = w' := hw'.symm) | (go_at_call 210; refine HSO5.out.mono ?_; rintro e w' ⟨rfl, hw'⟩; obtain rfl : w5 = w' := hw'.symm))
               go_roundw
               case rel => exact ⟨k + 1, K + 1, kept ++ [(i, o')], by omega, by omega, rfl, rfl, by go_num, by have := HKL.out; simp; omega, X3, nS1, nW3, vs1, wk3, wv3, _, HM5.out, HF5.out, HV3.out, HK'.out, HNS.out, by have := HNW.out; have := HN3.out.1; omega, by simpa using HCL.out⟩
               case measure => simp [intOf]; omega
             · have hd2 : decide (o' ∈ B.st) = false := decide_eq_false h2
               rw [hd2] at HSO5
               have hk' := HLK.out.put HIO.out HHO.out HC.out.1 HTC.out HT.out h1 h2
               rw [HKL.out] at hk'
               have HK' := hide hk'
               have hspl := HLK.out.li.wf.spLen hV
               simp only at hspl
               have HPU := hide (put_any w5 X3 R S W nS1 nW3 vc vs1 wk3 cg cc wv3 _ HM5.out o' (i : Int) hso' h2 (by simp only; omega) (by have := HNS.out; omega))
               have HSP := hide hspl
               clear hk' hd1 hd2 h1 h2 hspl
               go_wp2_with (first | (go_at_call 211; refine HIN5.out.mono ?_; rintro e w' ⟨rfl, hw'⟩; obtain rfl : w5 = w' := hw'.symm) | (go_at_call 210; refine HSO5.out.mono ?_; rintro e w' ⟨rfl, hw'⟩; obtain rfl : w5 = w' := hw'.symm) | (go_at_call 220; refine HPU.out.mono ?_; rintro e w6 ⟨rfl, X6, vs6, wk6, hM6, hF6⟩))
               have HM6 := hide hM6
               have HF6 := hide (HF5.out.trans hF6)
               clear hM6 hF6
               go_wp2_with fail
               go_roundw
               case rel => exact ⟨k + 1, K + 1, kept ++ [(i, o')], by omega, by omega, rfl, rfl, by go_num, by have := HKL.out; simp; omega, X6, nS1 + 1, nW3, vs6, wk6, wv3, _, HM6.out, HF6.out, HV3.out, HK'.out, by have := HNS.out; simp [Bd.put]; omega, by have := HNW.out; have := HN3.out.1; omega, by simpa [Bd.put] using HCL.out⟩
               case measure => simp [intOf]; omega
   · have hlti : ¬ (k : Int) < (n0 : Int) := by omega
     have HD := hide (HLK.out.done (by have := HN0.out; omega))
     have c6 := HM.out.c6
     obtain ⟨w2, hrun, hM2, hF2⟩ := HM.out.endW nt hnt HV1.out K (by omega) (by have := HNW.out; unfold maxLen; omega)
     have htk : (B.wt nt).take K = kept := by rw [HLK.out.wt, ← HKL.out]; simp
     rw [htk] at hM2
     have HM2 := hide hM2
     have HF2 := hide (HF.out.trans hF2)
     clear hM2 hF2 htk
     go_wp2_with fail
     go_ret
     unfold LkOut
     rw [HD.out]
     exact ⟨rfl, _, _, _, _, _, _, HM2.out, HF2.out, HNS.out, by have := HNW.out; omega⟩
end Go.Proofs.YtmambfdimeeijaaGreatDoor.Pf

namespace Go.Proofs.YtmambfdimeeijaaGreatDoor.Pf
open Go.RowKit Go.Maps Go.WideMaps
set_option maxRecDepth 100000
theorem flatS_at {l : List (Int × Int × Int)} {j : Nat} (hj : j < l.length) : (flatS l)[j * 3]? = some (.int .i64 l[j].1) ∧ (flatS l)[j * 3 + 1]? = some (.int .i64 l[j].2.1) ∧ (flatS l)[j * 3 + 2]? = some (.int .i64 l[j].2.2) := by
 induction l generalizing j with
 | nil => simp at hj
 | cons a l ih =>
   have e : flatS (a :: l) = .int .i64 a.1 :: .int .i64 a.2.1 :: .int .i64 a.2.2 :: flatS l := by simp [flatS]
   rw [e]
   cases j with
   | zero => simp
   | succ j =>
     have h := ih (j := j) (by simpa using hj)
     rw [show (j + 1) * 3 = j * 3 + 3 by omega]
     simpa using h
def loadA : Op := .load 213 (.tmp 52)
theorem loadA_fold : Op.load 213 (.tmp 52) = loadA := rfl
theorem loadA_is : loadA = Op.load 213 (.tmp 52) := rfl
def loadB : Op := .load 3 (.tmp 59)
theorem loadB_is : loadB = Op.load 3 (.tmp 59) := rfl
attribute [local go_sem] loadA_is
attribute [local go_sem] loadB_is
end Go.Proofs.YtmambfdimeeijaaGreatDoor.Pf

namespace Go.Proofs.YtmambfdimeeijaaGreatDoor.Pf
open Go.Lib
set_option maxRecDepth 100000
theorem compact_upto (d : Array Int) (hs : ∀ i j, i ≤ j → j < d.size → d[i]! ≤ d[j]!) : ∀ m, m ≤ d.size → (∀ x, x ∈ compactUpTo d m ↔ ∃ j, j < m ∧ d[j]! = x) ∧ (compactUpTo d m).Nodup := by
 intro m
 induction m with
 | zero => intro _; exact ⟨fun x => by simp [compactUpTo], by simp [compactUpTo]⟩
 | succ m ih =>
   intro hm
   obtain ⟨h1, h2⟩ := ih (by omega)
   rw [compactUpTo_succ]
   have hk : keeps d m = false → ∃ j, j < m ∧ d[j]! = d[m]! := fun e => by
     cases m with
     | zero => simp [keeps] at e
     | succ k => exact ⟨k, by omega, (by simpa [keeps] using e : d[k + 1]! = d[k]!).symm⟩
   have hk2 : keeps d m = true → ∀ j, j < m → d[j]! ≠ d[m]! := fun e j hj ej => by
     cases m with
     | zero => omega
     | succ k =>
       have a := hs j k (by omega) (by omega)
       have b := hs k (k + 1) (by omega) (by omega)
       have : d[k]! = d[k + 1]! := by omega
       simp [keeps, this] at e
   refine ⟨fun x => ?_, ?_⟩
   · rw [List.mem_append, h1]
     constructor
     · rintro (⟨j, hj, e⟩ | h)
       · exact ⟨j, by omega, e⟩
       · split at h
         · exact ⟨m, by omega, ((by simpa using h : x = d[m]!)).symm⟩
         · simp at h
     · rintro ⟨j, hj, e⟩
       by_cases hjm : j = m
       · subst hjm
         cases hkk : keeps d j
         · obtain ⟨i, hi, ei⟩ := hk hkk
           exact .inl ⟨i, hi, ei.trans e⟩
         · right; simp [e]
       · exact .inl ⟨j, by omega, e⟩
   · rw [List.nodup_append]
     refine ⟨h2, by split <;> simp, fun a ha b hb e => ?_⟩
     split at hb
     · rename_i hkk
       have hb' : b = d[m]! := by simpa using hb
       obtain ⟨j, hj, ej⟩ := (h1 a).1 ha
       exact hk2 hkk j hj (ej.trans (e.trans hb'))
     · simp at hb
def sortC (l : List Int) : List Int := compact (l.mergeSort fun x y => decide (x ≤ y))
theorem sortC_ok (l : List Int) : (∀ x, x ∈ sortC l ↔ x ∈ l) ∧ (sortC l).Nodup := by
 have hp : (l.mergeSort fun x y => decide (x ≤ y)).Perm l := List.mergeSort_perm _ _
 have hsr : (l.mergeSort fun x y => decide (x ≤ y)).Pairwise fun a b => decide (a ≤ b) = true := List.pairwise_mergeSort (fun a b c h1 h2 => by simp at *; omega) (fun a b => by simp; omega) l
 unfold sortC compact
 generalize l.mergeSort (fun x y => decide (x ≤ y)) = s at *
 have hs : ∀ i j, i ≤ j → j < s.toArray.size → s.toArray[i]! ≤ s.toArray[j]! := fun i j hij hj => by
   have hj' : j < s.length := by simpa using hj
   rw [List.pairwise_iff_getElem] at hsr
   by_cases e : i = j
   · subst e; exact Int.le_refl _
   · have := hsr i j (by omega) hj' (by omega)
     simp [getElem!_pos, hj', show i < s.length by omega] at this ⊢
     exact this
 obtain ⟨h1, h2⟩ := compact_upto s.toArray hs s.length (by simp)
 refine ⟨fun x => ?_, h2⟩
 rw [h1, ← hp.mem_iff]
 constructor
 · rintro ⟨j, hj, e⟩
   have : s.toArray[j]! = s[j] := by simp [getElem!_pos, hj]
   rw [← e, this]
   exact List.getElem_mem hj
 · intro hx
   obtain ⟨j, hj, e⟩ := List.getElem_of_mem hx
   exact ⟨j, hj, by simp [getElem!_pos, hj, e]⟩
end Go.Proofs.YtmambfdimeeijaaGreatDoor.Pf
