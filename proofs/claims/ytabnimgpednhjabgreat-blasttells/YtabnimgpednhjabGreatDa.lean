import Derived.Test.YtabnimgpednhjabGreatGjM
namespace Go.Proofs.YtabnimgpednhjabGreat.Gg
open Go.RowKit Go.Maps Go.WideMaps
set_option maxRecDepth 100000
theorem andAt_app (ps : List (Int × Int)) (p : Int × Int) (k : Nat) (h : k ≤ ps.length) (x : Int × Int) : andAt (ps ++ [p]) k x = andAt ps k x := by
 unfold andAt
 rw [List.take_append_of_le_length h]
theorem dupN_app (ps : List (Int × Int)) (p : Int × Int) (k : Nat) (h : k ≤ ps.length) : dupN (ps ++ [p]) k = dupN ps k := by
 induction k with
 | zero => rfl
 | succ k ih =>
   rw [dupN_succ (by simp; omega), dupN_succ (by omega), ih (by omega), List.getElem_append_left (by omega), andAt_app _ _ _ (by omega)]
theorem MapIs.app {ins : Int} {ps : List (Int × Int)} {D : DataW Unit} (h : MapIs ins ps ps.length D) (p : Int × Int) : MapIs ins (ps ++ [p]) ps.length D :=
 ⟨fun a b ha hb => by rw [andAt_app _ _ _ (Nat.le_refl _)]; exact h.has a b ha hb,
  fun hd a b ha hb h0 => by rw [andAt_app _ _ _ (Nat.le_refl _)] at h0 ⊢; rw [dupN_app _ _ _ (Nat.le_refl _)] at hd; exact h.lit hd a b ha hb h0,
  fun hd => h.once (by rw [dupN_app _ _ _ (Nat.le_refl _)] at hd; exact hd), fun hd => h.twice (by rw [dupN_app _ _ _ (Nat.le_refl _)] at hd; exact hd)⟩
theorem WfP.app {ps : List (Int × Int)} {a b : Int} (h : WfP ps) (ha : Wf a) (hb : Wf b) : WfP (ps ++ [(a, b)]) := fun i hi => by
 by_cases e : i < ps.length
 · rw [List.getElem_append_left e]; exact h i e
 · obtain rfl : i = ps.length := by simp at hi; omega
   rw [List.getElem_append_right (Nat.le_refl _)]
   simp
   exact ⟨ha, hb⟩
theorem MapIs.more {ins : Int} {ps : List (Int × Int)} {D : DataW Unit} {a b : Int} (h : MapIs ins ps ps.length D) (ht : Tidy D) (hw : WfP ps) (ha : Wf a) (hb : Wf b) :
   MapIs ins (ps ++ [(a, b)]) (ps ++ [(a, b)]).length (D.put (keyL a b) (.lit (.int .i64 (2 * (1 + ins + ps.length))))) := by
 have h2 := (h.app (a, b)).step ht (by simp) (hw.app ha hb)
 have e : (ps ++ [(a, b)])[ps.length]'(by simp) = (a, b) := by simp
 rw [e] at h2
 rw [List.length_append]
 exact h2
def Apart (M B : Nat) (v : Value) (g : Nat) : Prop := g ≠ M ∧ g ≠ B ∧ v.ownBlock ≠ some g
structure Bm (w : World) (base M B : Nat) (v : Value) (ins : Int) (ps : List (Int × Int)) : Prop where
 mem : Mk w base M B v ins ps
 map : ∃ D, w.ownsMap Tryz.prog 81 (plainElem Tryz.prog 3) B ps.length D ∧ MapIs ins ps ps.length D
 wf : WfP ps
theorem Bm.later {w w1 : World} {base M B : Nat} {v : Value} {ins : Int} {ps : List (Int × Int)} (h : Bm w base M B v ins ps) (hb : Below w.heap.size w w1) : Bm w1 base M B v ins ps := by
 obtain ⟨D, h1, h2⟩ := h.map
 exact ⟨h.mem.below hb, ⟨D, map_below h1 hb, h2⟩, h.wf⟩
structure Gon (base M B : Nat) (w : World) (v : Value) (w' : World) (v' : Value) : Prop where
 bel : Below base w w'
 far : ∀ g, g < w.heap.size → Apart M B v g → w'.heap[g]? = w.heap[g]? ∧ Apart M B v' g
theorem gon_quiet {base M B : Nat} {w w1 : World} {v : Value} (h : Below base w w1) (hb : Below w.heap.size w w1) : Gon base M B w v w1 v := ⟨h, fun g hg ha => ⟨hb.block g hg, ha⟩⟩
theorem Gon.refl {base M B : Nat} {w : World} {v : Value} : Gon base M B w v w v := ⟨Below.refl _ _, fun _ _ h => ⟨rfl, h⟩⟩
theorem Gon.trans {base M B : Nat} {w w1 w2 : World} {v v1 v2 : Value} (h : Gon base M B w v w1 v1) (k : Gon base M B w1 v1 w2 v2) : Gon base M B w v w2 v2 :=
 ⟨h.bel.trans k.bel, fun g hg ha => by
   obtain ⟨h1, h2⟩ := h.far g hg ha
   obtain ⟨k1, k2⟩ := k.far g (Nat.lt_of_lt_of_le hg h.bel.size) h2
   exact ⟨k1.trans h1, k2⟩⟩
theorem Gon.cell {base M B : Nat} {w w1 : World} {v v1 : Value} (h : Gon base M B w v w1 v1) {q : Addr} {x : Value} (hq : w.cell? q = some x) (ha : Apart M B v q.block) : w1.cell? q = some x := by
 rw [World.cell?_of_block (w := w) (h.far _ (World.block_lt_of_cell? _ _ hq) ha).1]
 exact hq
theorem Bm.new {w : World} {base M B : Nat} {v : Value} {ins : Int} {ps : List (Int × Int)} (h : Bm w base M B v ins ps) {g : Nat} (hg : w.heap.size ≤ g) : Apart M B v g := by
 obtain ⟨D, h1, _⟩ := h.map
 have hM := World.block_lt_of_cell? _ _ h.mem.c1
 simp only at hM
 have hB := h1.lt
 exact ⟨by omega, by omega, fun e => by have := (h.mem.row.lt _ e).2; omega⟩
set_option maxHeartbeats 4000000 in
theorem add2_any (ins : Int) (ps : List (Int × Int)) (hl : ps.length ≤ 1000000) (h0 : 0 ≤ ins) (h1 : ins ≤ 1000) (a b : Int) (ha : Wf a) (hb : Wf b) (hwf : WfP ps) (hd : dupN ps ps.length = false)
   (w : World) (base M B : Nat) (v : Value) (D : DataW Unit) (hbs : base ≤ w.heap.size) (hmk : Mk w base M B v ins ps) (hown : w.ownsMap Tryz.prog 81 (plainElem Tryz.prog 3) B ps.length D) (hmap : MapIs ins ps ps.length D) :
   Calls Tryz.prog 130 #[.pointer (some ⟨M, 0, none⟩), arr2 a b] w fun e w' => ∃ v', e = .returned (.tuple #[.int .i64 (addLit ins ps (a, b)), .bool (addOk ps (a, b))]) ∧
     Bm w' base M B v' ins (addPs ps (a, b)) ∧ Gon base M B w v w' v' := by
 have hge := andAt_ge ps ps.length (a, b)
 obtain ⟨c, hlook, hat⟩ := look_ok_int (hown.alloc (.cells #[.int .i64 a, .int .i64 b] 81)) ha hb
 have hal : Below w.heap.size w (w.alloc (.cells #[.int .i64 a, .int .i64 b] 81)) := bal (Below.refl _ _) _
 have HBA : Hid (Below base w (w.alloc (.cells #[.int .i64 a, .int .i64 b] 81))) := hal.mono hbs
 have m2 := past1 hmk.c2 (.cells #[.int .i64 a, .int .i64 b] 81)
 have hh := hmap.has a b ha hb
 rw [hh] at hlook
 have HL := hide (fun h => lit_inj (hat.symm.trans (hmap.lit hd a b ha hb h)))
 by_cases hin : 0 ≤ andAt ps ps.length (a, b)
 · have hin' : decide (0 ≤ andAt ps ps.length (a, b)) = true := by simpa using hin
   rw [hin'] at hlook
   have HE : Hid (addLit ins ps (a, b) = c ∧ addOk ps (a, b) = true ∧ addPs ps (a, b) = ps) := ⟨by unfold addLit; rw [if_pos hin, HL.out hin], by unfold addOk; rw [hin']; rfl, by unfold addPs; rw [if_pos hin]⟩
   have HMK : Hid (∀ w1, Below w.heap.size w w1 → Bm w1 base M B v ins ps) := fun w1 hb => Bm.later ⟨hmk, ⟨D, hown, hmap⟩, hwf⟩ hb
   clear hin hin' hge HL hh hat hmap hown hmk
   go_enter Tryz.func130, Tryz.ntmps130
   go_wp2
   go_quiet (fail)
   go_wp2
   go_ret2
   exact ⟨v, by rw [HE.out.1, HE.out.2.1]; rfl, by rw [HE.out.2.2]; exact HMK.out _ (bdn hal _), gon_quiet (bdn HBA.out _) (bdn hal _)⟩
 · have hin' : decide (0 ≤ andAt ps ps.length (a, b)) = false := by simpa using hin
   rw [hin'] at hlook
   obtain ⟨pv, cv, rfl, _⟩ := owns_pairs hmk.row
   have m1 := past1 hmk.c1 (.cells #[.int .i64 a, .int .i64 b] 81)
   by_cases hf : 1000000 ≤ ps.length
   · have HE : Hid (addLit ins ps (a, b) = 0 ∧ addOk ps (a, b) = false ∧ addPs ps (a, b) = ps) := ⟨by unfold addLit; rw [if_neg hin, if_pos hf], by unfold addOk; rw [hin']; simp; omega, by unfold addPs; rw [if_neg hin, if_pos hf]⟩
     have HMK : Hid (∀ w1, Below w.heap.size w w1 → Bm w1 base M B (.slice pv ps.length cv) ins ps) := fun w1 hb => Bm.later ⟨hmk, ⟨D, hown, hmap⟩, hwf⟩ hb
     have hf' : (1000000 : Int) ≤ (ps.length : Int) := by omega
     clear hin hin' hge HL hh hat hmap hown hmk
     go_enter Tryz.func130, Tryz.ntmps130
     go_wp2
     go_quiet (fail)
     go_wp2
     go_ret2
     exact ⟨_, by rw [HE.out.1, HE.out.2.1]; rfl, by rw [HE.out.2.2]; exact HMK.out _ (bdn hal _), gon_quiet (bdn HBA.out _) (bdn hal _)⟩
   · have HE : Hid (addLit ins ps (a, b) = 2 * (1 + ins + ps.length) ∧ addOk ps (a, b) = true ∧ addPs ps (a, b) = ps ++ [(a, b)]) := ⟨by unfold addLit; rw [if_neg hin, if_neg hf], by unfold addOk; rw [hin']; simp; omega, by unfold addPs; rw [if_neg hin, if_neg hf]⟩
     have HMK := hide hmk
     have m0 := past1 hmk.c0 (.cells #[.int .i64 a, .int .i64 b] 81)
     have HF : Hid (ps.length < 1000000) := by have := hf; unfold Hid; omega
     have hfd : decide ((1000000 : Int) ≤ (ps.length : Int)) = false := by simp; omega
     have HON := hide hown
     have HMP := hide hmap
     have HWF := hide hwf
     have HIN2 := hide (show andAt ps ps.length (a, b) < 0 by omega)
     clear hin hin' hge HL hh hat hmap hown hmk hf hl
     go_enter Tryz.func130, Tryz.ntmps130
     go_wp2
     go_quiet (fail)
     go_wp2_with fail
     refine (nodes_any ins pv ps.length cv h0 h1 (by have := HF.out; omega) _).mono ?_
     rintro e w1 ⟨rfl, hb1⟩
     have hbA := bthen (bdn hal nq) hb1
     have hmk1 := HMK.out.below hbA
     have HON1 := hide (map_below HON.out hbA)
     have e0 := cell_later hb1 (a := ⟨w.heap.size, 0, none⟩) (v := .int .i64 a) (by simp [go_sem])
     have e1 := cell_later hb1 (a := ⟨w.heap.size, 1, none⟩) (v := .int .i64 b) (by simp [go_sem])
     have HB1 := hide (hbA.mono hbs)
     have hlt1 := hbA.size
     have hlt0 := World.block_lt_of_cell? _ _ hmk1.c1
     simp only at hlt0
     obtain ⟨i0, hi, hz0, hz1, hz2⟩ := info_parts info55
     have HNW : Hid (∀ j u, ([.int .i64 a, .int .i64 b] : List Value)[j]? = some u → (w1.alloc (.cells #[.int .i64 a, .int .i64 b] 81)).drew.cell? ((⟨w1.heap.size, 0, none⟩ : Addr).add j) = some u) := fun j u hj => by
       match j, hj with
       | 0, hj => simp at hj; subst hj; simp [go_sem, Addr.add]
       | 1, hj => simp at hj; subst hj; simp [go_sem, Addr.add]
     have HOC : Hid (∀ u ∈ ([.int .i64 a, .int .i64 b] : List Value), u.oneCell' = true) := fun u hu => by simp at hu; rcases hu with rfl | rfl <;> rfl
     have HMK1 := hide hmk1
     have HBW := hide hbA
     have HNE : Hid (w.heap.size ≠ M ∧ some w.heap.size ≠ Value.ownBlock (.slice pv ps.length cv)) := ⟨fun e => by have := World.block_lt_of_cell? _ _ HMK.out.c1; simp only at this; omega, fun e => by have := (HMK.out.row.lt _ e.symm).2; omega⟩
     have HNE2 : Hid (w.heap.size ≠ B) := fun e => by have := HON.out.lt; omega
     have HIN := hide (And.intro hi (And.intro hz0 (And.intro hz1 hz2)))
     have m0' := hmk1.c0
     have m1' := hmk1.c1
     have m2' := hmk1.c2
     have f1' := hmk1.f1
     clear HMK HON hb1 hbA m0 m1 m2 hi hz0 hz1 hz2 hmk1 hlook
     go_wp2_with (first | (go_at_call 44; refine (literal_any _ (by omega) (by have := HF.out; omega) _).mono ?_; rintro e w' ⟨rfl, rfl⟩) | fail)
     go_region_law (refine step_append_lies _ rfl (.tmp 38) (.tmp 40) 22 rfl base 81 i0 (.agg #[.int .i64 0, .int .i64 0]) 2 16 Tryz.underlying22 HIN.out.1 HIN.out.2.1 HIN.out.2.2.1 HIN.out.2.2.2 rfl (by decide) _ ps.length (flat ps) (by simp [Act.eval]) (HMK1.out.row.alloc _).drew ⟨w'.heap.size, 0, none⟩ 1 1 [.int .i64 a, .int .i64 b] (by simp [Act.eval]) rfl HNW.out HOC.out (by decide) (by have := HF.out; unfold maxLen; omega) (by have := HF.out; omega) (by simp; omega) (w'.heap.size + 1) (by simp) ?_; intro g cap w2 hown2 hg2 hat2 hlt2; have g1 := hg2.cell (a := ⟨M, 1, none⟩) (past1 m1' _) (fun e => HMK1.out.nv e.symm); have f2 : w2.frozen? ⟨M, 1, none⟩ = false := (grown_frozen hg2 (past1 m1' _) (fun e => HMK1.out.nv e.symm)).trans (((bal (Below.refl _ _) _).drew.frozen hlt0).trans f1'))
     all_goals
       obtain ⟨hmk3, hown3, hbel3, hcell3⟩ := add_mem (a := a) (b := b) rfl (Nat.le_trans hbs hlt1) HMK1.out HON1.out hg2 hown2 hat2
       have HMK3 := hide hmk3
       have HG2 := hide hat2
       have HF3 : Hid (∀ q, q < w'.heap.size → Apart M B (.slice pv ps.length cv) q → (w2.setCell ⟨M, 1, none⟩ (.slice (some ⟨g, 0, none⟩) (ps.length + 1) cap)).heap[q]? = w'.heap[q]?) := fun q hq ha => by
         rw [Below.heap_setCell _ _ _ _ ha.1, hg2.block q (by simp; omega) (fun e => ha.2.2 e.symm)]
         exact (bal (Below.refl _ _) _).block q hq
       have HB3 := hide (hbel3 _ HB1.out)
       have x0 := hcell3 _ _ e0 (by simpa using HNE.out.1) HNE.out.2
       have x1 := hcell3 _ _ e1 (by simpa using HNE.out.1) HNE.out.2
       have x2 := hmk3.c2
       clear g1 f2 hown2 hg2 hat2 hlt2 hbel3 hcell3 m0' m1' m2' f1' HNW HOC HIN e0 e1 HON1 HB1
       rename_i hjunk
       generalize w2.setCell ⟨M, 1, none⟩ (.slice (some ⟨g, 0, none⟩) (ps.length + 1) cap) = w3 at *
       obtain ⟨w4, hrun, hown4, hg4⟩ := hown3.drew.update law55 Tryz.underlying73 (by have := HF.out; unfold maxLen; omega) (key55 ha hb) (plainElem_int Tryz.underlying3 (WalkArith.wf_i64 (by have := HF.out; omega) : (Lit.int .i64 (2 * (1 + ins + ps.length))).wf = true))
       have HMK4 := hide ((hmk3.below (Below.refl _ _).drew).grown hg4)
       have hlt3 := hown3.lt
       have HB4 : Hid (Below base w w4) := HB3.out.drew.grown hg4 (Nat.le_trans hmk3.hB (Nat.le_of_lt hlt3)) (fun j hj => by cases hj; exact hmk3.hB)
       have y0 := hg4.cell x0 (by simpa using HNE2.out)
       have y1 := hg4.cell x1 (by simpa using HNE2.out)
       have y2 := HMK4.out.c2
       have HBM : Hid (Bm w4 base M B (.slice (some ⟨g, 0, none⟩) (ps.length + 1) cap) ins (ps ++ [(a, b)])) := ⟨HMK4.out, ⟨_, by rw [List.length_append]; exact hown4, HMP.out.more (hown3.tidy law55) HWF.out ha hb⟩, HWF.out.app ha hb⟩
       have HGN : Hid (Gon base M B w (.slice pv ps.length cv) w4 (.slice (some ⟨g, 0, none⟩) (ps.length + 1) cap)) := ⟨HB4.out, fun q hq ha => ⟨by
         rw [hg4.block q (by have := HB3.out.size; exact Nat.lt_of_lt_of_le hq this) (fun e => ha.2.1 (Option.some.inj e))]
         exact (HF3.out q (Nat.lt_of_lt_of_le hq HBW.out.size) ha).trans (HBW.out.block q hq), ha.1, ha.2.1, fun e => by
         have e2 : g = q := Option.some.inj e
         rcases HG2.out with h | h
         · exact ha.2.2 (by rw [h, e2])
         · have := HBW.out.size; omega⟩⟩
       clear hown3 hmk3 hg4 hown4
       go_wp2
       go_region_held3 (fun w' => w'.cell? ⟨M, 2, none⟩ = some (.map (some B)) ∧ w'.cell? ⟨w.heap.size, 0, none⟩ = some (.int .i64 a) ∧ w'.cell? ⟨w.heap.size, 1, none⟩ = some (.int .i64 b))
         (first | exact ⟨y2, y0, y1⟩ | go_keep)
         (fail)
       all_goals
         go_wp2
         go_ret2
         exact ⟨_, by rw [HE.out.1, HE.out.2.1]; rfl, by rw [HE.out.2.2]; exact HBM.out, HGN.out⟩
end Go.Proofs.YtabnimgpednhjabGreat.Gg
