/- A list of numbers that is its own, sorted, and each of them once. -/
import Derived.Test.YtkinmangilbeeaaGreatDoorPiM
import Derived.Test.YtkinmangilbeeaaGreatDoorUhM
import Derived.Test.YtkinmangilbeeaaGreatDoorShelf
import Derived.Sort.OwnSortedInts
import Derived.Lib.RowBridge
import Derived.Test.YtkinmangilbeeaaGreatDoorQbM
namespace Go.Proofs.YtkinmangilbeeaaGreatDoor.Pf
open Go.RowKit Go.Maps Go.WideMaps Go.Sort
set_option maxRecDepth 100000

theorem row_parts {w : World} {G cap : Nat} {l : List Int} (h : w.ownsRow 0 3 1 (.slice (some ⟨G, 0, none⟩) l.length cap) l.length (l.map (Value.int .i64))) : ∃ cur, w.heap[G]? = some (.cells cur 3 (0, 0)) ∧ l.length ≤ cap ∧ cap ≤ maxLen ∧ cur.size = cap ∧ cur.toList.take l.length = l.map (Value.int .i64) := by
  rcases h.2 with ⟨e, _⟩ | ⟨g, c, cur, e, _, hg, h1, h2, h3, h4⟩
  · cases e
  · injection e with e1 _ e3
    injection e1 with e1
    injection e1 with e1
    subst e1 e3
    exact ⟨cur, hg, h1, h2, by omega, by rw [Nat.mul_one] at h4; exact h4⟩
theorem sort_any (w : World) (G cap : Nat) (l : List Int) (hl : l.length ≤ 200) (hrow : w.ownsRow 0 3 1 (.slice (some ⟨G, 0, none⟩) l.length cap) l.length (l.map (Value.int .i64))) :
    Calls Tryz.prog 39 #[.slice (some ⟨G, 0, none⟩) l.length cap] w fun e w' => e = .returned (.tuple #[]) ∧ w'.ownsRow 0 3 1 (.slice (some ⟨G, 0, none⟩) l.length cap) l.length ((l.mergeSort fun x y => decide (x ≤ y)).map (Value.int .i64)) ∧ Fr (fun g => g = G) w w' (fun g => g = G) := by
  obtain ⟨cur, hg, h1, h2, h3, h4⟩ := row_parts hrow
  refine (Tryz.slices_Sort_int G 0 cap l w (holds_of_blockI hg h4) (hrow.lt G rfl).2 (by omega)).mono ?_
  rintro e w' ⟨rfl, n, os, rfl⟩
  refine ⟨rfl, ownsRow_sortedI (by simp) (Nat.zero_le _) hg h1 h2 (by omega), ?_⟩
  exact Fr.grown (grownBy_sortedI _) (fun g e => by injection e with e; exact e.symm)
theorem compact_any (w : World) (G cap : Nat) (l : List Int) (hl : l.length ≤ 200) (hrow : w.ownsRow 0 3 1 (.slice (some ⟨G, 0, none⟩) l.length cap) l.length (l.map (Value.int .i64))) :
    Calls Tryz.prog 40 #[.slice (some ⟨G, 0, none⟩) l.length cap] w fun e w' => e = .returned (.slice (some ⟨G, 0, none⟩) (Lib.compact l).length cap) ∧ w'.ownsRow 0 3 1 (.slice (some ⟨G, 0, none⟩) (Lib.compact l).length cap) (Lib.compact l).length ((Lib.compact l).map (Value.int .i64)) ∧ Fr (fun g => g = G) w w' (fun g => g = G) := by
  obtain ⟨cur, hg, h1, h2, h3, h4⟩ := row_parts hrow
  refine (Tryz.slices_Compact_int G 0 cap l w (holds_of_blockI hg h4) (by omega) h1).mono ?_
  rintro e w' ⟨rfl, q, rfl⟩
  have hle := Lib.compact_length_le l
  generalize hd : Lib.compact l = d at *
  have hg2 := heap_sortedI (os := #[]) (n := q) (d ++ List.replicate (l.length - d.length) 0).toArray hg
  have hgr := grownBy_sortedI (w := w) (g := G) (n := q) (os := #[]) (d ++ List.replicate (l.length - d.length) 0).toArray
  rw [grow_empty] at hg2 hgr
  refine ⟨rfl, ⟨by simp, .inr ⟨G, cap, _, rfl, Nat.zero_le _, hg2, by omega, h2, by simp [putCells]; omega, ?_⟩⟩, Fr.grown hgr (fun g e => by injection e with e; exact e.symm)⟩
  have ht := take_putCellsI cur (d ++ List.replicate (l.length - d.length) 0) (by simp; omega)
  have h5 := congrArg (List.take d.length) ht
  rw [List.take_take, Nat.min_eq_left (by simp)] at h5
  rw [Nat.mul_one, h5, List.map_append, List.take_left' (by simp)]
end Go.Proofs.YtkinmangilbeeaaGreatDoor.Pf

namespace Go.Proofs.YtkinmangilbeeaaGreatDoor.Pf
open Go.RowKit Go.Maps Go.WideMaps
set_option maxRecDepth 100000

section
variable {w : World} {X : Nat → Prop} {R S W nS nW : Nat} {vc vs : Value} {wk : Int} {cg cc : Nat → Nat} {wv : Int → Value} {B : Bd}
/-- A clause is laid among the others. -/
theorem Mb.addCl {w3 : World} {X' : Nat → Prop} {vc' : Value} {G cap : Nat} {d : List Int} (h : Mb w X R S W nS nW vc vs wk cg cc wv B)
    (hb : ∀ g, g < w.heap.size → g ≠ R → vc.ownBlock ≠ some g → w3.heap[g]? = w.heap[g]?) (hx : ∀ g, X g → X' g) (hG : ¬ X G)
    (hR : w3.heap[R]? = some (.cells #[vc', vs, .int .i64 B.level, .bool B.lost, .int .i64 wk, .map (some S), .map (some W), .int .i64 B.spread] 66 (0, 0)))
    (hrw : w3.ownsRow 0 38 1 vc' (B.cl.length + 1) (((List.range B.cl.length).map fun i => (Value.slice (some ⟨cg i, 0, none⟩) (B.cl.getD i []).length (cc i))) ++ [.slice (some ⟨G, 0, none⟩) d.length cap]))
    (hrow : w3.ownsRow 0 3 1 (.slice (some ⟨G, 0, none⟩) d.length cap) d.length (d.map (Value.int .i64))) (hxc : ∀ g, vc'.ownBlock = some g → X' g) (hxG : X' G) (hxb : ∀ g, X' g → g < w3.heap.size) :
    Mb w3 X' R S W nS nW vc' vs wk (fun i => if i = B.cl.length then G else cg i) (fun i => if i = B.cl.length then cap else cc i) wv { B with cl := B.cl ++ [d] } := by
  have hso := h.so
  have hwm := h.wm
  obtain ⟨D, h1, _⟩ := hso
  obtain ⟨D2, h2, _⟩ := hwm
  have row : ∀ {e : TypeId} {sz : Nat} {v : Value} {n : Nat} {xs : List Value}, 66 ≠ e → e ≠ 38 → w.ownsRow 0 e sz v n xs → w3.ownsRow 0 e sz v n xs := fun he he2 hr => row_same hr fun g hg => hb g (hr.lt g hg).2 (fun e' => row_ne hr h.bd he (e' ▸ hg)) (rows_ne hr h.rw he2 hg)
  have hl : (B.cl ++ [d]).length = B.cl.length + 1 := by simp
  have hold : ∀ i, i < B.cl.length → (B.cl ++ [d]).getD i [] = B.cl.getD i [] := fun i hi => by
    simp only [List.getD, List.getElem?_append_left hi]
  have hnew : (B.cl ++ [d]).getD B.cl.length [] = d := by simp [List.getD]
  refine ⟨hR, h.so.same (hb S h1.lt h.neS (row_nmap h.rw h1)), h.wm.same (hb W h2.lt h.neW (row_nmap h.rw h2)), row (by decide) (by decide) h.st, ?_, fun i hi => ?_, fun x => row (by decide) (by decide) (h.wl x), fun i j hi hj e => ?_, h.wn, h.sw, hx _ h.xr, hx _ h.xs, hx _ h.xw, fun g e => hx g (h.xt g e), hxc, fun i hi => ?_, fun x g e => hx g (h.xl x g e), hxb⟩
  · simp only [hl]
    rw [List.range_succ, List.map_append, List.map_singleton]
    have e1 : (List.range B.cl.length).map (fun i => (Value.slice (some ⟨if i = B.cl.length then G else cg i, 0, none⟩) ((B.cl ++ [d]).getD i []).length (if i = B.cl.length then cap else cc i))) = (List.range B.cl.length).map fun i => (Value.slice (some ⟨cg i, 0, none⟩) (B.cl.getD i []).length (cc i)) := by
      refine List.map_congr_left fun i hi => ?_
      have hi' : i < B.cl.length := by simpa using hi
      rw [if_neg (by omega), if_neg (by omega), hold i hi']
    rw [e1, if_pos rfl, if_pos rfl, hnew]
    exact hrw
  · simp only [hl] at hi
    by_cases e : i = B.cl.length
    · subst e
      simp only [if_true, hnew]
      exact hrow
    · simp only [if_neg e, hold i (by omega)]
      exact row (by decide) (by decide) (h.cl i (by omega))
  · simp only [hl] at hi hj
    by_cases e1 : i = B.cl.length
    · by_cases e2 : j = B.cl.length
      · rw [e1, e2]
      · rw [if_pos e1, if_neg e2] at e
        exact absurd (e ▸ h.xi j (by omega)) hG
    · rw [if_neg e1] at e
      by_cases e2 : j = B.cl.length
      · rw [if_pos e2] at e
        exact absurd (e ▸ h.xi i (by omega)) hG
      · rw [if_neg e2] at e
        exact h.cn i j (by omega) (by omega) e
  · simp only [hl] at hi
    by_cases e : i = B.cl.length
    · simp only [if_pos e]; exact hxG
    · simp only [if_neg e]; exact hx _ (h.xi i (by omega))
end
theorem until_lt {st : List Int} {x : Int} (h : -x ∈ st) : untilE st x < st.length := by
  unfold untilE
  rw [if_pos h]
  have := List.idxOf_lt_length_of_mem h
  omega
theorem until_ge {st : List Int} {x : Int} (h : -x ∉ st) : untilE st x = st.length := by
  unfold untilE
  rw [if_neg h]
/-- What Sort, Compact and two pulls make of a clause is as it is laid. -/
theorem laid_of {B : Bd} {l d1 d2 : List Int} (h1 : Pulled (untilE B.st) 0 (sortC l) d1 (sortC l).length) (h2 : Pulled (untilE B.st) 1 d1 d2 d1.length) : Laid B l d2 := by
  obtain ⟨hm, hn⟩ := sortC_ok l
  have hp : d2.Perm (sortC l) := h2.perm.trans h1.perm
  have key : ∀ {a y : Int}, -a ∈ B.st → untilE B.st y ≤ untilE B.st a → -y ∈ B.st := fun {a y} ha hle => by
    refine Classical.byContradiction fun hy => ?_
    rw [until_ge hy] at hle
    have := until_lt ha
    omega
  refine ⟨fun x => hp.mem_iff.trans (hm x), hp.nodup_iff.2 hn, fun a r e ha y hy => ?_, fun a b r e hb y hy hya => ?_⟩
  · have hy1 : y ∈ d1 := h2.perm.mem_iff.1 hy
    obtain ⟨j, hj, ej⟩ := mem_getD hy1
    have h0 : d1.getD 0 0 = a := by
      have := h2.pre 0 (by omega)
      rw [e] at this
      simpa using this.symm
    have := h1.max j (Nat.zero_le _) (by rw [← h1.perm.length_eq]; exact hj) (by rw [← h1.perm.length_eq]; exact hj)
    rw [ej, h0] at this
    exact key ha this
  · obtain ⟨j, hj, ej⟩ := mem_getD hy
    have hb' : d2.getD 1 0 = b := by rw [e]; rfl
    have hj1 : 1 ≤ j := by
      refine Classical.byContradiction fun h => hya ?_
      rw [show j = 0 by omega, e] at ej
      simpa using ej.symm
    have := h2.max j hj1 (by rw [← h2.perm.length_eq]; exact hj) (by rw [← h2.perm.length_eq]; exact hj)
    rw [ej, hb'] at this
    exact key hb this
set_option maxHeartbeats 1000000 in
theorem pull0_any (w : World) (R : Nat) (a : Option Addr) (c p : Nat) (hp : p ≤ 1) :
    Calls Tryz.prog 41 #[.pointer (some ⟨R, 0, none⟩), .slice a 0 c, .int .i64 p] w fun e w' => e = .returned (.tuple #[]) ∧ Below w.heap.size w w' := by
  have hmf : ∀ (fn : Fn) (first cap : Array Value) (w : World), (Instr.makeFunc fn first cap).run Tryz.prog w = .ok (.func fn first cap) w := fun _ _ _ _ => rfl
  have HB : Hid (Below w.heap.size w (w.alloc (.cells #[.pointer (some ⟨R, 0, none⟩)] 49))) := bal (Below.refl _ _) _
  have hpi : (p : Int) ≤ 1 := by omega
  have hpn : ¬ (p : Int) + 1 < 0 := by omega
  go_enter Tryz.func41, Tryz.ntmps41
  go_wp2_with fail
  go_loopw [7] (fun t wr => t = .int .i64 ((p : Int) + 1) ∧ wr = w.alloc (.cells #[.pointer (some ⟨R, 0, none⟩)] 49)) (fun _ _ => 0)
  case atStart => exact ⟨rfl, rfl⟩
  case round =>
    obtain ⟨rfl, rfl⟩ := hrel
    go_wp2_with fail
    go_end0
    exact ⟨rfl, HB.out⟩
end Go.Proofs.YtkinmangilbeeaaGreatDoor.Pf

namespace Go.Proofs.YtkinmangilbeeaaGreatDoor.Pf
open Go.RowKit Go.Maps Go.WideMaps
set_option maxRecDepth 100000

theorem sortC_nil : sortC [] = [] := by unfold sortC; rw [List.mergeSort_nil]; rfl
/-- How a clause comes to lie. -/
def layD (st : List Int) (l : List Int) : List Int := pullI (untilE st) 1 (pullI (untilE st) 0 (sortC l) (sortC l).length) (sortC l).length
/-- What Add leaves. -/
def AddOut (w : World) (X : Nat → Prop) (R S W nS nW : Nat) (B : Bd) (l : List Int) (e : Ending) (w' : World) : Prop :=
  e = .returned (.tuple #[]) ∧ ∃ d X' nS' nW' vc' vs' wk' cg' cc' wv', (Laid B l d ∧ d = layD B.st l) ∧ d.length ≤ l.length ∧ Mb w' X' R S W nS' nW' vc' vs' wk' cg' cc' wv' (B.add d) ∧ Fr X w w' X' ∧ nS' ≤ nS + 1 ∧ nW' ≤ nW + 2
theorem Mb.lose {w : World} {X : Nat → Prop} {R S W nS nW : Nat} {vc vs : Value} {wk : Int} {cg cc : Nat → Nat} {wv : Int → Value} {B : Bd} (h : Mb w X R S W nS nW vc vs wk cg cc wv B) : Mb (w.setCell ⟨R, 3, none⟩ (.bool true)) X R S W nS nW vc vs wk cg cc wv { B with lost := true } :=
  h.board ((Below.refl 0 w).setCell (Nat.zero_le _) _).size (fun g hg => Below.heap_setCell _ _ _ _ hg) B.level true B.spread wk (by rw [heap_setCell_same _ _ _ _ _ _ h.bd]; rfl)
set_option maxHeartbeats 1000000 in
theorem add0_any (w : World) (X : Nat → Prop) (R S W nS nW : Nat) (vc vs : Value) (wk : Int) (cg cc : Nat → Nat) (wv : Int → Value) (B : Bd) (h : Mb w X R S W nS nW vc vs wk cg cc wv B) (q : Option Addr) (cq : Nat) :
    Calls Tryz.prog 26 #[.pointer (some ⟨R, 0, none⟩), .slice q 0 cq] w (AddOut w X R S W nS nW B []) := by
  have HCL := hide (cloneI_any q cq [] (by simp) w (fun h => by simp at h))
  have H := hide h
  clear h
  go_enter Tryz.func26, Tryz.ntmps26
  go_wp2_with fail
  refine HCL.out.mono ?_
  rintro e w1 ⟨v, rfl, ho, hb1⟩
  obtain ⟨pv, cv, rfl, _⟩ := owns_ints ho
  have H1 := hide (H.out.later hb1)
  have HF1 : Hid (Fr X w w1 X) := Fr.quiet hb1
  clear ho hb1 HCL
  simp only [List.length_nil]
  go_wp2_with fail
  refine (Tryz.slices_Sort_int_none pv cv w1).mono ?_
  rintro e w2 ⟨rfl, hw2⟩
  obtain rfl : w1 = w2 := hw2.symm
  go_wp2_with fail
  refine (Tryz.slices_Compact_int_empty pv cv w1).mono ?_
  rintro e w2 ⟨rfl, hw2⟩
  obtain rfl : w1 = w2 := hw2.symm
  go_wp2_with fail
  refine (pull0_any w1 R pv cv 0 (by omega)).mono ?_
  rintro e w2 ⟨rfl, hb2⟩
  have H2 := hide (H1.out.later hb2)
  have HF2 : Hid (Fr X w w2 X) := HF1.out.trans (Fr.quiet hb2)
  clear hb2
  go_wp2_with fail
  refine (pull0_any w2 R pv cv 1 (by omega)).mono ?_
  rintro e w3 ⟨rfl, hb3⟩
  have H3 := hide (H2.out.later hb3)
  have HF3 : Hid (Fr X w w3 X) := HF2.out.trans (Fr.quiet hb3)
  have c3 := H3.out.c3
  have f3 := H3.out.fz 3
  have HM := hide H3.out.lose
  have HF : Hid (Fr X w (w3.setCell ⟨R, 3, none⟩ (.bool true)) X) := HF3.out.trans (Fr.set (q := ⟨R, 3, none⟩) H3.out.xr _)
  clear hb3
  go_wp2_with fail
  go_end0
  refine ⟨rfl, [], X, nS, nW, vc, vs, wk, cg, cc, wv, ⟨⟨fun x => Iff.rfl, by simp, fun a r e => by simp at e, fun a b r e => by simp at e⟩, by
    unfold layD
    rw [sortC_nil]
    rfl⟩, Nat.le_refl _, ?_, HF.out, by omega, by omega⟩
  unfold Bd.add
  rw [if_pos (.inl rfl)]
  exact HM.out
end Go.Proofs.YtkinmangilbeeaaGreatDoor.Pf
