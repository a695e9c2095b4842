/- A board: how long a number may be so. -/
import Derived.Test.YtkinmangilbeeaaGreatDoorPe
namespace Go.Proofs.YtkinmangilbeeaaGreatDoor.Pf
open Go.RowKit Go.Maps Go.WideMaps
set_option maxRecDepth 100000

/-- At which step a number came to be not so; behind the last one, if it is not. -/
def untilE (st : List Int) (x : Int) : Int := if -x ∈ st then (st.idxOf (-x) : Int) else st.length
set_option maxHeartbeats 1000000 in
theorem until_any (Q : Nat) (x : Int) (hx : Small x) (w : World) (X : Nat → Prop) (R S W nS nW : Nat) (vc vs : Value) (wk : Int) (cg cc : Nat → Nat) (wv : Int → Value) (B : Bd) (h : Mb w X R S W nS nW vc vs wk cg cc wv B) (hQ : w.cell? ⟨Q, 0, none⟩ = some (.pointer (some ⟨R, 0, none⟩))) :
    Calls Tryz.prog 54 #[.int .i64 x, .pointer (some ⟨Q, 0, none⟩)] w fun e w' => e = .returned (.int .i64 (untilE B.st x)) ∧ w' = w := by
  obtain ⟨c, hl, hc⟩ := look103 h.so hx.neg
  have c1 := h.c1
  have c5 := h.c5
  obtain ⟨ps, cs, rfl⟩ : ∃ p c, vs = .slice p B.sp.length c := by
    rcases h.st.2 with ⟨rfl, e⟩ | ⟨g, cap, cur, rfl, _⟩
    · rw [e]; exact ⟨_, _, rfl⟩
    · exact ⟨_, _, rfl⟩
  have hx1 := hx.1
  have hx2 := hx.2
  have hwn : wrap64 (-x) = -x := wrap_in _ (by omega) (by omega)
  have hln := st_len B
  by_cases hin : -x ∈ B.st
  · have hd : decide (-x ∈ B.st) = true := by simpa using hin
    rw [hd] at hl
    have HE : Hid (untilE B.st x = c) := by
      unfold Hid untilE
      rw [if_pos hin]
      have hlt : B.st.idxOf (-x) < B.st.length := List.idxOf_lt_length_of_mem hin
      have := hc (B.st.idxOf (-x)) (by rw [List.getElem?_eq_getElem hlt, List.getElem_idxOf])
      exact this.symm
    clear h hc hd hin hln
    go_enter Tryz.func54, Tryz.ntmps54
    go_wp2_with fail
    go_ret
    exact ⟨ret_int HE.out.symm, rfl⟩
  · have hd : decide (-x ∈ B.st) = false := by simpa using hin
    rw [hd] at hl
    have HE : Hid (untilE B.st x = B.sp.length) := by
      unfold Hid untilE
      rw [if_neg hin, hln]
    clear h hc hd hin hln
    go_enter Tryz.func54, Tryz.ntmps54
    go_wp2_with fail
    go_ret
    exact ⟨ret_int HE.out.symm, rfl⟩
end Go.Proofs.YtkinmangilbeeaaGreatDoor.Pf

namespace Go.Proofs.YtkinmangilbeeaaGreatDoor.Pf
open Go.RowKit Go.Maps Go.WideMaps
set_option maxRecDepth 100000

theorem enter93 (args : Array Value) (w : World) : (callFunc 54 args).run Tryz.prog w = .ok (.enter 54 args) w := by kernel_rfl
/-- What comes of the pulling, up to a place. -/
def pullI (u : Int → Int) (p : Nat) (l : List Int) : Nat → List Int
  | 0 => l
  | i + 1 => if p < i ∧ i < l.length ∧ u ((pullI u p l i).getD p 0) < u ((pullI u p l i).getD i 0) then ((pullI u p l i).set i ((pullI u p l i).getD p 0)).set p ((pullI u p l i).getD i 0) else pullI u p l i
theorem pull_pre (u : Int → Int) (p : Nat) (l : List Int) : ∀ i, i ≤ p + 1 → pullI u p l i = l := by
  intro i
  induction i with
  | zero => intro _; rfl
  | succ i ih => intro h; rw [pullI, if_neg (by omega)]; exact ih (by omega)
theorem pull_past (u : Int → Int) (p : Nat) (l : List Int) : ∀ d, pullI u p l (l.length + d) = pullI u p l l.length := by
  intro d
  induction d with
  | zero => rfl
  | succ d ih => rw [← Nat.add_assoc, pullI, if_neg (by omega)]; exact ih
/-- A list in another order: what is ahead of a place is as it was, and at the place is one that is as late as all behind it. -/
structure Pulled (u : Int → Int) (p : Nat) (l l' : List Int) (i : Nat) : Prop where
  perm : l'.Perm l
  pre : ∀ j, j < p → l'.getD j 0 = l.getD j 0
  max : ∀ j, p ≤ j → j < i → j < l.length → u (l'.getD j 0) ≤ u (l'.getD p 0)
  ex : l' = pullI u p l i
theorem Pulled.zero (u : Int → Int) (p : Nat) (l : List Int) : Pulled u p l l (p + 1) := ⟨.refl _, fun _ _ => rfl, fun j h1 h2 _ => by rw [show j = p by omega]; exact Int.le_refl _, (pull_pre u p l _ (Nat.le_refl _)).symm⟩
theorem Pulled.stay {u : Int → Int} {p : Nat} {l l' : List Int} {i : Nat} (h : Pulled u p l l' i) (hle : u (l'.getD i 0) ≤ u (l'.getD p 0)) : Pulled u p l l' (i + 1) :=
  ⟨h.perm, h.pre, fun j h1 h2 h3 => by
    by_cases e : j = i
    · rw [e]; exact hle
    · exact h.max j h1 (by omega) h3, by rw [pullI, ← h.ex, if_neg (by omega)]⟩
theorem getD_setI {l : List Int} {i j : Nat} {v : Int} (hi : i < l.length) : (l.set i v).getD j 0 = if j = i then v else l.getD j 0 := by
  simp only [List.getD, List.getElem?_set]
  by_cases e : i = j
  · subst e; simp [hi]
  · have e' : ¬ j = i := fun h => e h.symm
    simp [e, e']
theorem Pulled.swap {u : Int → Int} {p : Nat} {l l' : List Int} {i : Nat} (h : Pulled u p l l' i) (hp : p < i) (hi : i < l'.length) (hlt : u (l'.getD p 0) < u (l'.getD i 0)) : Pulled u p l ((l'.set i (l'.getD p 0)).set p (l'.getD i 0)) (i + 1) := by
  have hpl : p < l'.length := by omega
  have g1 : l'.getD p 0 = l'[p] := by rw [List.getD, List.getElem?_eq_getElem hpl]; rfl
  have g2 : l'.getD i 0 = l'[i] := by rw [List.getD, List.getElem?_eq_getElem hi]; rfl
  have hg : ∀ j, ((l'.set i (l'.getD p 0)).set p (l'.getD i 0)).getD j 0 = if j = p then l'.getD i 0 else if j = i then l'.getD p 0 else l'.getD j 0 := fun j => by
    rw [getD_setI (by simpa using hpl)]
    split
    · rfl
    · rw [getD_setI hi]
  refine ⟨?_, fun j hj => ?_, fun j h1 h2 h3 => ?_, by rw [pullI, ← h.ex, if_pos ⟨hp, by rw [← h.perm.length_eq]; exact hi, hlt⟩]⟩
  · refine List.Perm.trans ?_ h.perm
    rw [g1, g2]
    exact List.set_set_perm hi hpl
  · rw [hg, if_neg (by omega), if_neg (by omega)]
    exact h.pre j hj
  · rw [hg p, if_pos rfl, hg j]
    split
    · exact Int.le_refl _
    · split
      · omega
      · have := h.max j h1 (by omega) h3; omega
section
variable {w : World} {X : Nat → Prop} {R S W nS nW : Nat} {vc vs : Value} {wk : Int} {cg cc : Nat → Nat} {wv : Int → Value} {B : Bd}
/-- What lies in other blocks is none of the board's. -/
theorem Mb.apart {w1 : World} (h : Mb w X R S W nS nW vc vs wk cg cc wv B) (hs : w.heap.size ≤ w1.heap.size) (hb : ∀ g, X g → w1.heap[g]? = w.heap[g]?) : Mb w1 X R S W nS nW vc vs wk cg cc wv B :=
  ⟨(hb R h.xr).trans h.bd, h.so.same (hb S h.xs), h.wm.same (hb W h.xw), row_same h.st fun g e => hb g (h.xt g e), row_same h.rw fun g e => hb g (h.xc g e), fun i hi => row_same (h.cl i hi) fun g e => hb g (by simp only [Value.ownBlock, Option.some.injEq] at e; exact e ▸ h.xi i hi), fun x => row_same (h.wl x) fun g e => hb g (h.xl x g e), h.cn, h.wn, h.sw, h.xr, h.xs, h.xw, h.xt, h.xc, h.xi, h.xl, fun g hg => Nat.lt_of_lt_of_le (h.xb g hg) hs⟩
end
theorem row_set {w : World} {G cap : Nat} {l : List Int} (h : w.ownsRow 0 3 1 (.slice (some ⟨G, 0, none⟩) l.length cap) l.length (l.map (Value.int .i64))) (j : Nat) (x : Int) : (w.setCell ⟨G, j, none⟩ (.int .i64 x)).ownsRow 0 3 1 (.slice (some ⟨G, 0, none⟩) (l.set j x).length cap) (l.set j x).length ((l.set j x).map (Value.int .i64)) := by
  rcases h with ⟨hl, hor⟩
  refine ⟨by simp, ?_⟩
  rcases hor with ⟨e, _⟩ | ⟨g, cap', cur, e, hb, hg, hn, hm, hs, ht⟩
  · cases e
  · injection e with e1 e2 e3
    injection e1 with e1
    injection e1 with e1
    subst e1 e3
    refine .inr ⟨G, cap, cur.setIfInBounds j (.int .i64 x), by simp, Nat.zero_le _, heap_setCell_same _ _ _ _ _ _ hg, by simpa using hn, hm, by simpa using hs, ?_⟩
    rw [List.length_set, Array.toList_setIfInBounds, List.take_set, ht, List.map_set]
theorem row_cell {w : World} {G cap : Nat} {l : List Int} (h : w.ownsRow 0 3 1 (.slice (some ⟨G, 0, none⟩) l.length cap) l.length (l.map (Value.int .i64))) {j : Nat} (hj : j < l.length) : w.cell? ⟨G, j, none⟩ = some (.int .i64 (l.getD j 0)) ∧ w.frozen? ⟨G, j, none⟩ = false := by
  refine ⟨?_, ?_⟩
  · have := h.cellAt j (by omega)
    rw [List.getElem?_map, List.getElem?_eq_getElem hj] at this
    rw [List.getD, List.getElem?_eq_getElem hj]
    exact this
  · rcases h.2 with ⟨e, _⟩ | ⟨g, cap', cur, e, _, hg, _⟩
    · cases e
    · injection e with e
      injection e with e
      injection e with e
      subst e
      exact Lib.frozen_of_heap hg j
def loadP : Op := .load 3 (.tmp 36)
theorem loadP_fold : Op.load 3 (.tmp 36) = loadP := rfl
theorem loadP_is : loadP = Op.load 3 (.tmp 36) := rfl
def loadQ : Op := .load 3 (.tmp 40)
theorem loadQ_fold : Op.load 3 (.tmp 40) = loadQ := rfl
theorem loadQ_is : loadQ = Op.load 3 (.tmp 40) := rfl
attribute [local go_sem] loadP_is
attribute [local go_sem] loadQ_is

set_option maxHeartbeats 2000000 in
theorem pull_any (w : World) (X : Nat → Prop) (R S W nS nW : Nat) (vc vs : Value) (wk : Int) (cg cc : Nat → Nat) (wv : Int → Value) (B : Bd) (h : Mb w X R S W nS nW vc vs wk cg cc wv B) (G cap : Nat) (l : List Int) (hl : l.length ≤ 200) (hsm : ∀ x ∈ l, Small x) (hrow : w.ownsRow 0 3 1 (.slice (some ⟨G, 0, none⟩) l.length cap) l.length (l.map (Value.int .i64))) (hG : ¬ X G) (p : Nat) (hp : p ≤ 1) :
    Calls Tryz.prog 41 #[.pointer (some ⟨R, 0, none⟩), .slice (some ⟨G, 0, none⟩) l.length cap, .int .i64 p] w fun e w' => e = .returned (.tuple #[]) ∧ ∃ l', Pulled (untilE B.st) p l l' l.length ∧ w'.ownsRow 0 3 1 (.slice (some ⟨G, 0, none⟩) l.length cap) l.length (l'.map (Value.int .i64)) ∧ Mb w' X R S W nS nW vc vs wk cg cc wv B ∧ Fr (fun g => g = G) w w' (fun g => g = G) := by
  have hmf : ∀ (fn : Fn) (first cap : Array Value) (w : World), (Instr.makeFunc fn first cap).run Tryz.prog w = .ok (.func fn first cap) w := fun _ _ _ _ => rfl
  have hent := enter93
  have hal : Below w.heap.size w (w.alloc (.cells #[.pointer (some ⟨R, 0, none⟩)] 49)) := bal (Below.refl _ _) _
  have q0 : (w.alloc (.cells #[.pointer (some ⟨R, 0, none⟩)] 49)).cell? ⟨w.heap.size, 0, none⟩ = some (.pointer (some ⟨R, 0, none⟩)) := by simp [go_sem]
  have hGlt : G < w.heap.size := (hrow.lt G rfl).2
  have HQG : Hid (w.heap.size ≠ G) := fun e => by omega
  have HXG := hide hG
  have HSM := hide hsm
  have HST : Hid (w.heap.size < (w.alloc (.cells #[.pointer (some ⟨R, 0, none⟩)] 49)).heap.size ∧ (w.alloc (.cells #[.pointer (some ⟨R, 0, none⟩)] 49)).cell? ⟨w.heap.size, 0, none⟩ = some (.pointer (some ⟨R, 0, none⟩)) ∧ (w.alloc (.cells #[.pointer (some ⟨R, 0, none⟩)] 49)).ownsRow 0 3 1 (.slice (some ⟨G, 0, none⟩) l.length cap) l.length (l.map (Value.int .i64)) ∧ Mb (w.alloc (.cells #[.pointer (some ⟨R, 0, none⟩)] 49)) X R S W nS nW vc vs wk cg cc wv B ∧ Fr (fun g => g = G) w (w.alloc (.cells #[.pointer (some ⟨R, 0, none⟩)] 49)) (fun g => g = G)) :=
    ⟨by simp, q0, hrow.alloc _, h.later hal, Fr.quiet hal⟩
  have hpi : (p : Int) ≤ 1 := by omega
  clear h hal q0 hrow hG hsm
  go_enter Tryz.func41, Tryz.ntmps41
  go_wp2_with fail
  go_loopw [7] (fun t wr => ∃ (i : Nat) (l' : List Int), p + 1 ≤ i ∧ i ≤ l.length + p + 1 ∧ t = .int .i64 i ∧ Hid (Pulled (untilE B.st) p l l' i ∧ wr.cell? ⟨w.heap.size, 0, none⟩ = some (.pointer (some ⟨R, 0, none⟩)) ∧ wr.ownsRow 0 3 1 (.slice (some ⟨G, 0, none⟩) l.length cap) l.length (l'.map (Value.int .i64)) ∧ Mb wr X R S W nS nW vc vs wk cg cc wv B ∧ Fr (fun g => g = G) w wr (fun g => g = G))) (fun t _ => l.length - (intOf t).toNat)
  case atStart => exact ⟨p + 1, l, Nat.le_refl _, by omega, by go_num, Pulled.zero _ _ _, HST.out.2.1, HST.out.2.2.1, HST.out.2.2.2.1, HST.out.2.2.2.2⟩
  case round =>
    obtain ⟨i, l', hi1, hi2, rfl, HJ⟩ := hrel
    have HLN : Hid (l'.length = l.length) := HJ.out.1.perm.length_eq
    by_cases hlt : i < l.length
    · have hr : wr.ownsRow 0 3 1 (.slice (some ⟨G, 0, none⟩) l'.length cap) l'.length (l'.map (Value.int .i64)) := by rw [HLN.out]; exact HJ.out.2.2.1
      have hil' : i < l'.length := by rw [HLN.out]; exact hlt
      have hpl' : p < l'.length := by omega
      obtain ⟨x0, fx⟩ := row_cell hr hil'
      obtain ⟨y0, fy⟩ := row_cell hr hpl'
      have hil : (i : Int) < (l.length : Int) := by omega
      have hpl : (p : Int) < (l.length : Int) := by rw [HLN.out] at hpl'; omega
      have hpln : p < l.length := by rw [HLN.out] at hpl'; exact hpl'
      have hin : ∀ j, j < l'.length → l'.getD j 0 ∈ l := fun j hj => HJ.out.1.perm.mem_iff.1 (by rw [List.getD, List.getElem?_eq_getElem hj]; exact List.getElem_mem hj)
      have HUi := hide (until_any w.heap.size (l'.getD i 0) (HSM.out _ (hin i hil')) wr.drew X R S W nS nW vc vs wk cg cc wv B (HJ.out.2.2.2.1.later (Below.refl _ wr).drew) HJ.out.2.1)
      have HUp := hide (until_any w.heap.size (l'.getD p 0) (HSM.out _ (hin p hpl')) wr.drew X R S W nS nW vc vs wk cg cc wv B (HJ.out.2.2.2.1.later (Below.refl _ wr).drew) HJ.out.2.1)
      have HSW : Hid (untilE B.st (l'.getD p 0) < untilE B.st (l'.getD i 0) → Pulled (untilE B.st) p l ((l'.set i (l'.getD p 0)).set p (l'.getD i 0)) (i + 1)) := fun e => HJ.out.1.swap (by omega) hil' e
      have HSY : Hid (untilE B.st (l'.getD i 0) ≤ untilE B.st (l'.getD p 0) → Pulled (untilE B.st) p l l' (i + 1)) := fun e => HJ.out.1.stay e
      have HRS : Hid (∀ a b : Int, ((wr.drew.setCell ⟨G, i, none⟩ (.int .i64 b)).setCell ⟨G, p, none⟩ (.int .i64 a)).ownsRow 0 3 1 (.slice (some ⟨G, 0, none⟩) l.length cap) l.length (((l'.set i b).set p a).map (Value.int .i64))) := fun a b => by
        have := row_set (row_set (w := wr.drew) hr i b) p a
        rw [List.length_set, List.length_set, HLN.out] at this
        exact this
      have HFS : Hid (∀ a b : Int, Fr (fun g => g = G) w ((wr.drew.setCell ⟨G, i, none⟩ (.int .i64 b)).setCell ⟨G, p, none⟩ (.int .i64 a)) (fun g => g = G)) := fun a b => ((HJ.out.2.2.2.2.trans (Fr.quiet (Below.refl _ wr).drew)).trans (Fr.set (X := fun g => g = G) (q := ⟨G, i, none⟩) rfl _)).trans (Fr.set (X := fun g => g = G) (q := ⟨G, p, none⟩) rfl _)
      have hng : ∀ g, X g → g ≠ G := fun g hg e => HXG.out (e ▸ hg)
      have HMS : Hid (∀ a b : Int, Mb ((wr.drew.setCell ⟨G, i, none⟩ (.int .i64 b)).setCell ⟨G, p, none⟩ (.int .i64 a)) X R S W nS nW vc vs wk cg cc wv B) := fun a b => HJ.out.2.2.2.1.apart (by simp) (fun g hg => (Below.heap_setCell _ _ _ _ (hng g hg)).trans (Below.heap_setCell _ _ _ _ (hng g hg)))
      have HQS : Hid (∀ a b : Int, ((wr.drew.setCell ⟨G, i, none⟩ (.int .i64 b)).setCell ⟨G, p, none⟩ (.int .i64 a)).cell? ⟨w.heap.size, 0, none⟩ = some (.pointer (some ⟨R, 0, none⟩))) := fun a b => cell_set_far (cell_set_far HJ.out.2.1 HQG.out) HQG.out
      have hne : ¬ i = p := by omega
      have hne' : ¬ p = i := by omega
      clear hr hil' hpl' hin hng
      generalize l'.getD i 0 = a at *
      generalize l'.getD p 0 = b at *
      generalize untilE B.st a = ua at *
      generalize untilE B.st b = ub at *
      by_cases hu : ub < ua
      · have HP := hide (HSW.out hu)
        clear HSW HSY
        go_upto_region 5 with fail
        go_region_held3 (fun w' => w' = wr.drew) (first | rfl | go_keep) (first | (go_at_call 54; with_reducible refine HUi.out.mono ?_; rintro e w' ⟨rfl, rfl⟩) | (go_at_call 54; with_reducible refine HUp.out.mono ?_; rintro e w' ⟨rfl, rfl⟩))
        all_goals
          go_upto_region 6 with fail
          simp only [loadP_fold, loadQ_fold]
          go_region_held3 (fun _ => True) (trivial) (fail)
          all_goals
            go_wp2_with fail
            go_roundw
            case rel => exact ⟨i + 1, _, by omega, by omega, by go_num, HP.out, HQS.out a b, HRS.out a b, (HMS.out a b).later (Below.refl _ _).drew, (HFS.out a b).trans (Fr.quiet (Below.refl _ _).drew)⟩
            case measure => simp [intOf]; omega
      · have HP := hide (HSY.out (by omega))
        clear HSW HSY
        go_upto_region 5 with fail
        go_region_held3 (fun w' => w' = wr.drew) (first | rfl | go_keep) (first | (go_at_call 54; with_reducible refine HUi.out.mono ?_; rintro e w' ⟨rfl, rfl⟩) | (go_at_call 54; with_reducible refine HUp.out.mono ?_; rintro e w' ⟨rfl, rfl⟩))
        all_goals
          go_wp2_with fail
          go_roundw
          case rel => exact ⟨i + 1, l', by omega, by omega, by go_num, HP.out, HJ.out.2.1, HJ.out.2.2.1, HJ.out.2.2.2.1.later (Below.refl _ wr).drew, HJ.out.2.2.2.2.trans (Fr.quiet (Below.refl _ wr).drew)⟩
          case measure => simp [intOf]; omega
    · have hil : ¬ (i : Int) < (l.length : Int) := by omega
      go_wp2_with fail
      go_end0
      refine ⟨rfl, l', ⟨HJ.out.1.perm, HJ.out.1.pre, fun j h1 h2 h3 => HJ.out.1.max j h1 (by omega) h3, by
        have e := pull_past (untilE B.st) p l (i - l.length)
        rw [show l.length + (i - l.length) = i by omega] at e
        rw [← e]
        exact HJ.out.1.ex⟩, HJ.out.2.2.1, HJ.out.2.2.2.1, HJ.out.2.2.2.2⟩
end Go.Proofs.YtkinmangilbeeaaGreatDoor.Pf
