/- A searcher goes back to a level. -/
import Derived.Test.YtkinmangilbeeaaGreatDoorLcM
import Derived.Test.YtkinmangilbeeaaGreatDoorPga
namespace Go.Proofs.YtkinmangilbeeaaGreatDoor.Sr
open Go.RowKit Go.Maps Go.Proofs.YtkinmangilbeeaaGreatDoor.Pf
set_option maxRecDepth 100000

/-- What Back leaves of a board. -/
def BkB (w : World) (X : Nat → Prop) (R nS nW : Nat) (B : Bd) (k : Nat) (lv : Int) (e : Ending) (w' : World) : Prop :=
  ∃ ad cp, e = .returned (.slice ad (B.sp.length - k) cp) ∧ (k < B.sp.length → ∃ g, ad = some ⟨g, k * 3, none⟩ ∧ X g ∧ ∀ j, k + j < B.sp.length → w'.cell? ⟨g, k * 3 + j * 3, none⟩ = some (.int .i64 (B.st.getD (k + j) 0)) ∧ (∃ y, w'.cell? ⟨g, k * 3 + j * 3 + 1, none⟩ = some (.int .i64 y)) ∧ ∃ y, w'.cell? ⟨g, k * 3 + j * 3 + 2, none⟩ = some (.int .i64 y)) ∧ BdAt w' X R nS nW (B.backTo k lv) ∧ Fr X w w' X
theorem backB_any {w : World} {X : Nat → Prop} {R nS nW : Nat} {B : Bd} (h : BdAt w X R nS nW B) (k : Nat) (hk : k ≤ B.sp.length) (lv : Int) (h0 : ∀ s ∈ B.sp.take k, s.2.1 ≤ lv) (h1 : ∀ s ∈ B.sp.drop k, lv < s.2.1) (hsn : B.st.Nodup) (hsm : ∀ x ∈ B.st, Small x) (hl : B.sp.length ≤ 1000000) (hsp : B.spread ≤ B.sp.length) :
    Calls Tryz.prog 34 #[.pointer (some ⟨R, 0, none⟩), .int .i64 lv] w (BkB w X R nS nW B k lv) := by
  obtain ⟨S, W, vc, vs, wk, cg, cc, wv, h⟩ := h
  refine (backTo_any w X R S W nS nW vc vs wk cg cc wv B h k hk lv h0 h1 hsn hsm hl hsp).mono ?_
  rintro e w' ⟨ad, cp, vs', rfl, hc, hM, hF⟩
  exact ⟨ad, cp, rfl, hc, ⟨S, W, vc, vs', wk, cg, cc, wv, hM⟩, hF⟩
/-- A step is undone. -/
def Sx.undo (S : Sx) (x : Int) : Sx := { S with lean := S.lean.set x.natAbs x, Q := S.Q.add x.natAbs }
def Sx.back (S : Sx) (k : Nat) (lv : Int) : Sx := (S.B.st.drop k).foldl Sx.undo { S with B := S.B.backTo k lv }
theorem addQ_ok {n : Nat} {Q : Qu} (h : QOk n Q) {v : Nat} (hv : v < n) (hl : Q.hp.length < 1000000) : QOk n (Q.add v) ∧ (Q.add v).hp.length ≤ Q.hp.length + 1 := by
  unfold Qu.add
  split
  · have := hpush_ok h (v := (v : Int)) (by omega) (by omega) hl
    exact ⟨this.1, by omega⟩
  · exact ⟨h, by omega⟩
/-- Between two of the steps that are undone. -/
structure Und (base n : Nat) (w wa wr : World) (s : Nat) (XB XQ0 : Nat → Prop) (R nS nW q gp gw gm gl : Nat) (vl vp : Value) (S1 : Sx) (l : List Int) (j : Nat) : Prop where
  ser : ∃ XQ vh, Ser base wr s XB XQ R nS nW q gp gw gm gl vh vl vp ((l.take j).foldl Sx.undo S1) ∧ ∀ g, g < w.heap.size → XQ g → XQ0 g
  ok : QOk n ((l.take j).foldl Sx.undo S1).Q
  len : ((l.take j).foldl Sx.undo S1).Q.hp.length ≤ S1.Q.hp.length + j
  lean : ((l.take j).foldl Sx.undo S1).lean.length = n
  bw : Below base w wr
  far : ∀ g, XB g → wr.heap[g]? = wa.heap[g]?
  fre : ∀ g, g < w.heap.size → ¬ XB g → ¬ XQ0 g → g ≠ gl → wr.heap[g]? = w.heap[g]?
  sz : w.heap.size ≤ wr.heap.size
theorem take_snoc {l : List Int} {j : Nat} (hj : j < l.length) : l.take (j + 1) = l.take j ++ [l.getD j 0] := by
  rw [List.take_succ_eq_append_getElem hj, List.getD_eq_getElem?_getD, List.getElem?_eq_getElem hj]
  rfl
/-- What back leaves. -/
def SbOut (base : Nat) (w : World) (s : Nat) (XB XQ0 : Nat → Prop) (R nS nW q gp gw gm gl : Nat) (vl vp : Value) (S' : Sx) (e : Ending) (w' : World) : Prop := e = .returned (.tuple #[]) ∧ (∃ XQ vh, Ser base w' s XB XQ R nS nW q gp gw gm gl vh vl vp S' ∧ ∀ g, g < w.heap.size → XQ g → XQ0 g) ∧ Below base w w' ∧ ∀ g, g < w.heap.size → ¬ XB g → ¬ XQ0 g → g ≠ gl → w'.heap[g]? = w.heap[g]?
set_option maxHeartbeats 4000000 in
theorem back_s (base : Nat) (w : World) (s : Nat) (XB XQ : Nat → Prop) (R nS nW q gp gw gm gl : Nat) (vh vl vp : Value) (S : Sx) (h : Ser base w s XB XQ R nS nW q gp gw gm gl vh vl vp S) (n : Nat) (ok : QOk n S.Q) (hn : n ≤ 200000) (hln : S.lean.length = n) (hq : S.Q.hp.length + S.B.sp.length < 1000000) (hx : ∀ x ∈ S.B.st, x.natAbs < n)
    (k : Nat) (hk : k ≤ S.B.sp.length) (lv : Int) (h0 : ∀ s ∈ S.B.sp.take k, s.2.1 ≤ lv) (h1 : ∀ s ∈ S.B.sp.drop k, lv < s.2.1) (hsn : S.B.st.Nodup) (hsp : S.B.spread ≤ S.B.sp.length) :
    Calls Tryz.prog 61 #[.pointer (some ⟨s, 0, none⟩), .int .i64 lv] w (SbOut base w s XB XQ R nS nW q gp gw gm gl vl vp (S.back k lv)) := by
  have HBK := hide (backB_any h.bd k hk lv h0 h1 hsn (fun x hx' => by have := hx x hx'; exact ⟨by omega, by omega⟩) (by omega) hsp)
  have HS := hide h
  have s0 := h.s0
  have HX := hide hx
  have HOK := hide ok
  have HLN := hide hln
  clear h h0 h1 hsn hsp hx ok hln
  go_enter Tryz.func61, Tryz.ntmps61
  go_wp2_with fail
  refine HBK.out.mono ?_
  rintro e wa ⟨ad, cp, rfl, hc, hba, hfa⟩
  have HSA := hide (HS.out.board hba hfa)
  have HBA := hide (HS.out.bw hfa)
  have HC := hide hc
  have HFA := hide hfa
  clear hc hba hfa HBK s0
  have HJ0 : Hid (Und base n w wa wa s XB XQ R nS nW q gp gw gm gl vl vp { S with B := S.B.backTo k lv } (S.B.st.drop k) 0) := ⟨⟨XQ, vh, HSA.out, fun _ _ e => e⟩, HOK.out, Nat.le_refl _, HLN.out, HBA.out, fun _ _ => rfl, fun g hg hx _ _ => HFA.out.far g hg hx, HFA.out.size⟩
  obtain ⟨m, hm⟩ : ∃ m, S.B.sp.length - k = m := ⟨_, rfl⟩
  have HM : Hid ((S.B.st.drop k).length = m ∧ S.B.sp.length = k + m) := ⟨by rw [List.length_drop, st_len]; exact hm, by omega⟩
  have hm6 : m ≤ 1000000 := by omega
  rw [hm]
  clear hm HSA HBA HOK HLN hk
  go_wp2_with fail
  go_loopw [14] (fun t wr => ∃ j : Nat, j ≤ m ∧ t = .int .i64 j ∧ Hid (Und base n w wa wr s XB XQ R nS nW q gp gw gm gl vl vp { S with B := S.B.backTo k lv } (S.B.st.drop k) j)) (fun t _ => m - (intOf t).toNat)
  case atStart => exact ⟨0, Nat.zero_le _, rfl, HJ0⟩
  case round =>
    obtain ⟨j, hj, rfl, HJ⟩ := hrel
    by_cases hlt : j < m
    · have hlti : (j : Int) < (m : Int) := by omega
      have e7 : (0 : Int) ≤ (j : Int) := by omega
      obtain ⟨g, rfl, hxg, hcs⟩ := HC.out (by have := HM.out.2; omega)
      obtain ⟨a0, ⟨y1, a1⟩, ⟨y2, a2⟩⟩ := hcs j (by have := HM.out.2; omega)
      have hfar := HJ.out.far g hxg
      rw [← World.cell?_of_block (w := wa) (w' := wr) (a := ⟨g, k * 3 + j * 3, none⟩) hfar] at a0
      rw [← World.cell?_of_block (w := wa) (w' := wr) (a := ⟨g, k * 3 + j * 3 + 1, none⟩) hfar] at a1
      rw [← World.cell?_of_block (w := wa) (w' := wr) (a := ⟨g, k * 3 + j * 3 + 2, none⟩) hfar] at a2
      obtain ⟨XQ1, vh1, hs1, hq1⟩ := HJ.out.ser
      obtain ⟨S2, hS2⟩ : ∃ S2, ((S.B.st.drop k).take j).foldl Sx.undo { S with B := S.B.backTo k lv } = S2 := ⟨_, rfl⟩
      rw [hS2] at hs1
      have hok2 := HJ.out.ok
      have hle2 := HJ.out.len
      have hln2 := HJ.out.lean
      rw [hS2] at hok2 hle2 hln2
      simp only at hle2
      obtain ⟨x, hxe⟩ : ∃ x, S.B.st.getD (k + j) 0 = x := ⟨_, rfl⟩
      rw [hxe] at a0
      have hxm : x ∈ S.B.st := by
        rw [← hxe, List.getD_eq_getElem?_getD, List.getElem?_eq_getElem (by rw [st_len]; have := HM.out.2; omega)]
        exact List.getElem_mem _
      have hxn := HX.out x hxm
      have HTK : Hid (((S.B.st.drop k).take (j + 1)).foldl Sx.undo { S with B := S.B.backTo k lv } = S2.undo x) := by
        unfold Hid
        rw [take_snoc (by rw [HM.out.1]; exact hlt), List.foldl_append, hS2]
        have e : (S.B.st.drop k).getD j 0 = x := by rw [← hxe, List.getD_eq_getElem?_getD, List.getElem?_drop, ← List.getD_eq_getElem?_getD]
        rw [e]
        rfl
      have HS2 := hide hs1
      have HQ1 := hide hq1
      have HOK2 := hide hok2
      have HLE2 := hide hle2
      have HLN2 := hide hln2
      clear hs1 hq1 hS2 hok2 hle2 hln2 hfar hcs hxm hxe HX
      have hbA : Below wr.heap.size wr (wr.alloc (.cells #[.int .i64 x, .int .i64 y1, .int .i64 y2] 76)) := bal (Below.refl _ _) _
      have HSB := hide (HS2.out.later hbA)
      have b0 : (wr.alloc (.cells #[.int .i64 x, .int .i64 y1, .int .i64 y2] 76)).cell? ⟨wr.heap.size, 0, none⟩ = some (.int .i64 x) := by simp [go_sem]
      have HGL : Hid (gl < wr.heap.size) := HS2.out.ss.2.2
      have HBB : Hid (Below base w (wr.alloc (.cells #[.int .i64 x, .int .i64 y1, .int .i64 y2] 76))) := HJ.out.bw.trans (hbA.mono (Nat.le_trans HS2.out.sx (Nat.le_of_lt HS2.out.ss.1)))
      have HFB : Hid (∀ g, XB g → (wr.alloc (.cells #[.int .i64 x, .int .i64 y1, .int .i64 y2] 76)).heap[g]? = wa.heap[g]?) := fun g hg => (hbA.block g (BdAt.xb HS2.out.bd g hg)).trans (HJ.out.far g hg)
      have HEB : Hid (∀ g, g < w.heap.size → ¬ XB g → ¬ XQ g → g ≠ gl → (wr.alloc (.cells #[.int .i64 x, .int .i64 y1, .int .i64 y2] 76)).heap[g]? = w.heap[g]?) := fun g hg h1 h2 h3 => (hbA.block g (by have := HJ.out.sz; omega)).trans (HJ.out.fre g hg h1 h2 h3)
      have HZB : Hid (w.heap.size ≤ (wr.alloc (.cells #[.int .i64 x, .int .i64 y1, .int .i64 y2] 76)).heap.size) := Nat.le_trans HJ.out.sz hbA.size
      have HV := hide (variableOf_any x (by omega) (by omega))
      clear hbA HS2 HJ
      go_wp2_with fail
      refine (HV.out _).mono ?_
      rintro e wb ⟨rfl, hwb⟩
      subst hwb
      generalize wr.alloc (.cells #[.int .i64 x, .int .i64 y1, .int .i64 y2] 76) = wb at *
      have hgl : wr.heap.size ≠ gl := by have := HGL.out; omega
      generalize wr.heap.size = G at *
      obtain ⟨v, hv⟩ : ∃ v : Nat, x.natAbs = v := ⟨_, rfl⟩
      have HVX := hide hv
      rw [hv] at hxn ⊢
      have s8 := HSB.out.s8
      have s1 := HSB.out.s1
      obtain ⟨la, lf⟩ := map_cell HSB.out.ln (k := v) (by rw [HLN2.out]; exact hxn)
      generalize S2.lean.getD v 0 = lo at *
      have e5 : (v : Int) < (S2.lean.length : Int) := by rw [HLN2.out]; omega
      have e8 : (0 : Int) ≤ (v : Int) := by omega
      have hsl : s ≠ gl := HSB.out.sl
      clear a0 a1 a2 hv HV HGL
      go_wp2_with fail
      go_region_held3 (fun w' => w'.cell? ⟨s, 8, none⟩ = some (.slice (some ⟨gl, 0, none⟩) S2.lean.length S2.lean.length) ∧ w'.cell? ⟨G, 0, none⟩ = some (.int .i64 x)) (first | exact ⟨s8, b0⟩ | exact ⟨cell_set_far s8 hsl, cell_set_far b0 hgl⟩ | go_keep) (fail)
      have HSC := hide ((HSB.out.setL v x).later (Below.refl _ _).drew)
      have HBC : Hid (Below base w (wb.setCell ⟨gl, v, none⟩ (.int .i64 x)).drew) := (HBB.out.setCell HSB.out.lx _).drew
      have HFC : Hid (∀ g, XB g → (wb.setCell ⟨gl, v, none⟩ (.int .i64 x)).drew.heap[g]? = wa.heap[g]?) := fun g hg => by
        have hne : g ≠ gl := fun e => HSB.out.lb (e ▸ hg)
        exact (Below.heap_setCell _ _ _ _ hne).trans (HFB.out g hg)
      have HEC : Hid (∀ g, g < w.heap.size → ¬ XB g → ¬ XQ g → g ≠ gl → (wb.setCell ⟨gl, v, none⟩ (.int .i64 x)).drew.heap[g]? = w.heap[g]?) := fun g hg h1 h2 h3 => (Below.heap_setCell _ _ _ _ h3).trans (HEB.out g hg h1 h2 h3)
      have HZC : Hid (w.heap.size ≤ (wb.setCell ⟨gl, v, none⟩ (.int .i64 x)).drew.heap.size) := by
        have h1 := HZB.out
        have h2 : (wb.setCell ⟨gl, v, none⟩ (.int .i64 x)).drew.heap.size = wb.heap.size := by simp
        unfold Hid
        omega
      generalize (wb.setCell ⟨gl, v, none⟩ (.int .i64 x)).drew = wc at *
      clear s8 s1 la lf b0 HSB HBB HFB
      have s1 := HSC.out.s1
      have HAQ := hide (addQ_any wc XQ1 q gp gw vh1 S2.Q HSC.out.qu n HOK2.out v hxn (by have := HLE2.out; have := HM.out.2; omega))
      have HAO := hide (addQ_ok HOK2.out hxn (by have := HLE2.out; have := HM.out.2; omega))
      go_wp2_with fail
      refine HAQ.out.mono ?_
      rintro e wd ⟨rfl, XQ', ⟨vh', hqd⟩, hfd⟩
      have HSD := hide (HSC.out.queue hqd hfd)
      have HUN : Hid (S2.undo x = { S2 with lean := S2.lean.set v x, Q := S2.Q.add v }) := by unfold Hid Sx.undo; rw [HVX.out]
      have HND : Hid (Und base n w wa wd s XB XQ R nS nW q gp gw gm gl vl vp { S with B := S.B.backTo k lv } (S.B.st.drop k) (j + 1)) := by
        refine ⟨⟨XQ', vh', by rw [HTK.out, HUN.out]; exact HSD.out, fun g hg e => HQ1.out g hg (hfd.fro g (by have := HZC.out; omega) e)⟩, by rw [HTK.out, HUN.out]; exact HAO.out.1, ?_, by rw [HTK.out, HUN.out]; simp; exact HLN2.out, HBC.out.trans (HSC.out.qw hfd), fun g hg => ?_, fun g hg g1 g2 g3 => (hfd.far g (by have := HZC.out; omega) fun e => g2 (HQ1.out g hg e)).trans (HEC.out g hg g1 g2 g3), Nat.le_trans HZC.out hfd.size⟩
        · rw [HTK.out, HUN.out]
          have h1 := HAO.out.2
          have h2 := HLE2.out
          simp only
          omega
        · exact (hfd.far g (BdAt.xb HSC.out.bd g hg) (fun hx' => HSC.out.bq g hg hx')).trans (HFC.out g hg)
      clear hqd hfd HAQ HSC HSD HBC HFC s1
      go_wp2
      go_roundw
      case rel => exact ⟨j + 1, hlt, by go_num, HND⟩
      case measure => simp [intOf]; omega
    · have hlti : ¬ (j : Int) < (m : Int) := by omega
      have HJM : Hid (j = m) := by unfold Hid; omega
      clear hlt
      go_wp2
      go_end0
      obtain ⟨XQ1, vh1, hs1, hq1⟩ := HJ.out.ser
      rw [HJM.out, List.take_of_length_le (by rw [HM.out.1]; exact Nat.le_refl _)] at hs1
      exact ⟨rfl, ⟨XQ1, vh1, hs1, hq1⟩, HJ.out.bw, HJ.out.fre⟩
end Go.Proofs.YtkinmangilbeeaaGreatDoor.Sr
