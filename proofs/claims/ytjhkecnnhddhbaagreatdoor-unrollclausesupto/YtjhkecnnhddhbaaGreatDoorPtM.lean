/- A list of numbers that is its own, sorted, and each of them once. -/
import Derived.Test.YtjhkecnnhddhbaaGreatDoorPiM
import Derived.Test.YtjhkecnnhddhbaaGreatDoorUh
import Derived.Test.YtjhkecnnhddhbaaGreatDoorShelf
import Derived.Sort.OwnSortedInts
import Derived.Lib.RowBridge
import Derived.Test.YtjhkecnnhddhbaaGreatDoorPqM
import Derived.Test.YtjhkecnnhddhbaaGreatDoorPg
import Derived.Test.YtjhkecnnhddhbaaGreatDoorCeM
namespace Go.Proofs.YtjhkecnnhddhbaaGreatDoor.Pf
open Go.RowKit Go.Maps Go.WideMaps Go.Sort
set_option maxRecDepth 100000
theorem row_parts {w : World} {G cap : Nat} {l : List Int} (h : w.ownsRow 0 3 1 (.slice (some ⟨G, 0, none⟩) l.length cap) l.length (l.map (Value.int .i64))) : ∃ cur, w.heap[G]? = some (.cells cur 3 (0, 0)) ∧ l.length ≤ cap ∧ cap ≤ maxLen ∧ cur.size = cap ∧ cur.toList.take l.length = l.map (Value.int .i64) := by
 rcases h.2 with ⟨e, _⟩ | ⟨g, c, cur, e, _, hg, h1, h2, h3, h4⟩
 · cases e
 · injection e with e1 _ e3
   injection e1 with e1
   injection e1 with e1
   subst e1 e3
   exact ⟨cur, hg, h1, h2, by omega, by rw [Nat.mul_one] at h4; exact h4⟩
theorem sort_any (w : World) (G cap : Nat) (l : List Int) (hl : l.length ≤ 200) (hrow : w.ownsRow 0 3 1 (.slice (some ⟨G, 0, none⟩) l.length cap) l.length (l.map (Value.int .i64))) :
   Calls Tryz.prog 211 #[.slice (some ⟨G, 0, none⟩) l.length cap] w fun e w' => e = .returned (.tuple #[]) ∧ w'.ownsRow 0 3 1 (.slice (some ⟨G, 0, none⟩) l.length cap) l.length ((l.mergeSort fun x y => decide (x ≤ y)).map (Value.int .i64)) ∧ Fr (fun g => g = G) w w' (fun g => g = G) := by
 obtain ⟨cur, hg, h1, h2, h3, h4⟩ := row_parts hrow
 refine (Tryz.slices_Sort_int G 0 cap l w (holds_of_blockI hg h4) (hrow.lt G rfl).2 (by omega)).mono ?_
 rintro e w' ⟨rfl, n, os, rfl⟩
 refine ⟨rfl, ownsRow_sortedI (by simp) (Nat.zero_le _) hg h1 h2 (by omega), ?_⟩
 exact Fr.grown (grownBy_sortedI _) (fun g e => by injection e with e; exact e.symm)
theorem compact_any (w : World) (G cap : Nat) (l : List Int) (hl : l.length ≤ 200) (hrow : w.ownsRow 0 3 1 (.slice (some ⟨G, 0, none⟩) l.length cap) l.length (l.map (Value.int .i64))) :
   Calls Tryz.prog 212 #[.slice (some ⟨G, 0, none⟩) l.length cap] w fun e w' => e = .returned (.slice (some ⟨G, 0, none⟩) (Lib.compact l).length cap) ∧ w'.ownsRow 0 3 1 (.slice (some ⟨G, 0, none⟩) (Lib.compact l).length cap) (Lib.compact l).length ((Lib.compact l).map (Value.int .i64)) ∧ Fr (fun g => g = G) w w' (fun g => g = G) := by
 obtain ⟨cur, hg, h1, h2, h3, h4⟩ := row_parts hrow
 refine (Tryz.slices_Compact_int G 0 cap l w (holds_of_blockI hg h4) (by omega) h1).mono ?_
 rintro e w' ⟨rfl, q, rfl⟩
 have hle := Lib.compact_length_le l
 generalize hd : Lib.compact l = d at *
 have hg2 := heap_sortedI (os := #[]) (n := q) (d ++ List.replicate (l.length - d.length) 0).toArray hg
 have hgr := grownBy_sortedI (w := w) (g := G) (n := q) (os := #[]) (d ++ List.replicate (l.length - d.length) 0).toArray
 rw [grow_empty] at hg2 hgr
 refine ⟨rfl, ⟨by simp, .inr ⟨G, cap, _, rfl, Nat.zero_le _, hg2, by omega, h2, by simp [putCells]; omega, ?_⟩⟩, Fr.grown hgr (fun g e => by injection e with e; exact e.symm)⟩
 have ht := take_putCellsI cur (d ++ List.replicate (l.length - d.length) 0) (by simp; omega)
 have h5 := congrArg (List.take d.length) ht
 rw [List.take_take, Nat.min_eq_left (by simp)] at h5
 rw [Nat.mul_one, h5, List.map_append, List.take_left' (by simp)]
end Go.Proofs.YtjhkecnnhddhbaaGreatDoor.Pf

namespace Go.Proofs.YtjhkecnnhddhbaaGreatDoor.Pf
open Go.RowKit Go.Maps Go.WideMaps
set_option maxRecDepth 100000
section
variable {w : World} {X : Nat → Prop} {R S W nS nW : Nat} {vc vs : Value} {wk : Int} {cg cc : Nat → Nat} {wv : Int → Value} {B : Bd}
theorem Mb.addCl {w3 : World} {X' : Nat → Prop} {vc' : Value} {G cap : Nat} {d : List Int} (h : Mb w X R S W nS nW vc vs wk cg cc wv B)
   (hb : ∀ g, g < w.heap.size → g ≠ R → vc.ownBlock ≠ some g → w3.heap[g]? = w.heap[g]?) (hx : ∀ g, X g → X' g) (hG : ¬ X G)
   (hR : w3.heap[R]? = some (.cells #[vc', vs, .int .i64 B.level, .bool B.lost, .int .i64 wk, .map (some S), .map (some W), .int .i64 B.spread] 208 (0, 0)))
   (hrw : w3.ownsRow 0 25 1 vc' (B.cl.length + 1) (((List.range B.cl.length).map fun i => (Value.slice (some ⟨cg i, 0, none⟩) (B.cl.getD i []).length (cc i))) ++ [.slice (some ⟨G, 0, none⟩) d.length cap]))
   (hrow : w3.ownsRow 0 3 1 (.slice (some ⟨G, 0, none⟩) d.length cap) d.length (d.map (Value.int .i64))) (hxc : ∀ g, vc'.ownBlock = some g → X' g) (hxG : X' G) (hxb : ∀ g, X' g → g < w3.heap.size) :
   Mb w3 X' R S W nS nW vc' vs wk (fun i => if i = B.cl.length then G else cg i) (fun i => if i = B.cl.length then cap else cc i) wv { B with cl := B.cl ++ [d] } := by
 have hso := h.so
 have hwm := h.wm
 obtain ⟨D, h1, _⟩ := hso
 obtain ⟨D2, h2, _⟩ := hwm
 have row : ∀ {e : TypeId} {sz : Nat} {v : Value} {n : Nat} {xs : List Value}, 208 ≠ e → e ≠ 25 → w.ownsRow 0 e sz v n xs → w3.ownsRow 0 e sz v n xs := fun he he2 hr => row_same hr fun g hg => hb g (hr.lt g hg).2 (fun e' => row_ne hr h.bd he (e' ▸ hg)) (rows_ne hr h.rw he2 hg)
 have hl : (B.cl ++ [d]).length = B.cl.length + 1 := by simp
 have hold : ∀ i, i < B.cl.length → (B.cl ++ [d]).getD i [] = B.cl.getD i [] := fun i hi => by
   simp only [List.getD, List.getElem?_append_left hi]
 have hnew : (B.cl ++ [d]).getD B.cl.length [] = d := by simp [List.getD]
 refine ⟨hR, h.so.same (hb S h1.lt h.neS (row_nmap h.rw h1)), h.wm.same (hb W h2.lt h.neW (row_nmap h.rw h2)), row (by decide) (by decide) h.st, ?_, fun i hi => ?_, fun x => row (by decide) (by decide) (h.wl x), fun i j hi hj e => ?_, h.wn, h.sw, hx _ h.xr, hx _ h.xs, hx _ h.xw, fun g e => hx g (h.xt g e), hxc, fun i hi => ?_, fun x g e => hx g (h.xl x g e), hxb⟩
 · simp only [hl]
   rw [List.range_succ, List.map_append, List.map_singleton]
   have e1 : (List.range B.cl.length).map (fun i => (Value.slice (some ⟨if i = B.cl.length then G else cg i, 0, none⟩) ((B.cl ++ [d]).getD i []).length (if i = B.cl.length then cap else cc i))) = (List.range B.cl.length).map fun i => (Value.slice (some ⟨cg i, 0, none⟩) (B.cl.getD i []).length (cc i)) := by
     refine List.map_congr_left fun i hi => ?_
     have hi' : i < B.cl.length := by simpa using hi
     rw [if_neg (by omega), if_neg (by omega), hold i hi']
   rw [e1, if_pos rfl, if_pos rfl, hnew]
   exact hrw
 · simp only [hl] at hi
   by_cases e : i = B.cl.length
   · subst e
     simp only [if_true, hnew]
     exact hrow
   · simp only [if_neg e, hold i (by omega)]
     exact row (by decide) (by decide) (h.cl i (by omega))
 · simp only [hl] at hi hj
   by_cases e1 : i = B.cl.length
   · by_cases e2 : j = B.cl.length
     · rw [e1, e2]
     · rw [if_pos e1, if_neg e2] at e
       exact absurd (e ▸ h.xi j (by omega)) hG
   · rw [if_neg e1] at e
     by_cases e2 : j = B.cl.length
     · rw [if_pos e2] at e
       exact absurd (e ▸ h.xi i (by omega)) hG
     · rw [if_neg e2] at e
       exact h.cn i j (by omega) (by omega) e
 · simp only [hl] at hi
   by_cases e : i = B.cl.length
   · simp only [if_pos e]; exact hxG
   · simp only [if_neg e]; exact hx _ (h.xi i (by omega))
end
theorem until_lt {st : List Int} {x : Int} (h : -x ∈ st) : untilE st x < st.length := by
 unfold untilE
 rw [if_pos h]
 have := List.idxOf_lt_length_of_mem h
 omega
theorem until_ge {st : List Int} {x : Int} (h : -x ∉ st) : untilE st x = st.length := by
 unfold untilE
 rw [if_neg h]
theorem laid_of {B : Bd} {l d1 d2 : List Int} (h1 : Pulled (untilE B.st) 0 (sortC l) d1 (sortC l).length) (h2 : Pulled (untilE B.st) 1 d1 d2 d1.length) : Laid B l d2 := by
 obtain ⟨hm, hn⟩ := sortC_ok l
 have hp : d2.Perm (sortC l) := h2.perm.trans h1.perm
 have key : ∀ {a y : Int}, -a ∈ B.st → untilE B.st y ≤ untilE B.st a → -y ∈ B.st := fun {a y} ha hle => by
   refine Classical.byContradiction fun hy => ?_
   rw [until_ge hy] at hle
   have := until_lt ha
   omega
 refine ⟨fun x => hp.mem_iff.trans (hm x), hp.nodup_iff.2 hn, fun a r e ha y hy => ?_, fun a b r e hb y hy hya => ?_⟩
 · have hy1 : y ∈ d1 := h2.perm.mem_iff.1 hy
   obtain ⟨j, hj, ej⟩ := mem_getD hy1
   have h0 : d1.getD 0 0 = a := by
     have := h2.pre 0 (by omega)
     rw [e] at this
     simpa using this.symm
   have := h1.max j (Nat.zero_le _) (by rw [← h1.perm.length_eq]; exact hj) (by rw [← h1.perm.length_eq]; exact hj)
   rw [ej, h0] at this
   exact key ha this
 · obtain ⟨j, hj, ej⟩ := mem_getD hy
   have hb' : d2.getD 1 0 = b := by rw [e]; rfl
   have hj1 : 1 ≤ j := by
     refine Classical.byContradiction fun h => hya ?_
     rw [show j = 0 by omega, e] at ej
     simpa using ej.symm
   have := h2.max j hj1 (by rw [← h2.perm.length_eq]; exact hj) (by rw [← h2.perm.length_eq]; exact hj)
   rw [ej, hb'] at this
   exact key hb this
set_option maxHeartbeats 1000000 in
theorem pull0_any (w : World) (R : Nat) (a : Option Addr) (c p : Nat) (hp : p ≤ 1) :
   Calls Tryz.prog 213 #[.pointer (some ⟨R, 0, none⟩), .slice a 0 c, .int .i64 p] w fun e w' => e = .returned (.tuple #[]) ∧ Below w.heap.size w w' := by
 have hmf : ∀ (fn : Fn) (first cap : Array Value) (w : World), (Instr.makeFunc fn first cap).run Tryz.prog w = .ok (.func fn first cap) w := fun _ _ _ _ => rfl
 have HB : Hid (Below w.heap.size w (w.alloc (.cells #[.pointer (some ⟨R, 0, none⟩)] 199))) := bal (Below.refl _ _) _
 have hpi : (p : Int) ≤ 1 := by omega
 have hpn : ¬ (p : Int) + 1 < 0 := by omega
 go_enter Tryz.func213, Tryz.ntmps213
 go_wp2_with fail
 go_loopw [7] (fun t wr => t = .int .i64 ((p : Int) + 1) ∧ wr = w.alloc (.cells #[.pointer (some ⟨R, 0, none⟩)] 199)) (fun _ _ => 0)
 case atStart => exact ⟨rfl, rfl⟩
 case round =>
   obtain ⟨rfl, rfl⟩ := hrel
   go_wp2_with fail
   go_end0
   exact ⟨rfl, HB.out⟩
end Go.Proofs.YtjhkecnnhddhbaaGreatDoor.Pf

namespace Go.Proofs.YtjhkecnnhddhbaaGreatDoor.Pf
open Go.RowKit Go.Maps Go.WideMaps
set_option maxRecDepth 100000
theorem sortC_nil : sortC [] = [] := by unfold sortC; rw [List.mergeSort_nil]; rfl
def layD (st : List Int) (l : List Int) : List Int := pullI (untilE st) 1 (pullI (untilE st) 0 (sortC l) (sortC l).length) (sortC l).length
def AddOut (w : World) (X : Nat → Prop) (R S W nS nW : Nat) (B : Bd) (l : List Int) (e : Ending) (w' : World) : Prop :=
 e = .returned (.tuple #[]) ∧ ∃ d X' nS' nW' vc' vs' wk' cg' cc' wv', (Laid B l d ∧ d = layD B.st l) ∧ d.length ≤ l.length ∧ Mb w' X' R S W nS' nW' vc' vs' wk' cg' cc' wv' (B.add d) ∧ Fr X w w' X' ∧ nS' ≤ nS + 1 ∧ nW' ≤ nW + 2
theorem Mb.lose {w : World} {X : Nat → Prop} {R S W nS nW : Nat} {vc vs : Value} {wk : Int} {cg cc : Nat → Nat} {wv : Int → Value} {B : Bd} (h : Mb w X R S W nS nW vc vs wk cg cc wv B) : Mb (w.setCell ⟨R, 3, none⟩ (.bool true)) X R S W nS nW vc vs wk cg cc wv { B with lost := true } :=
 h.board ((Below.refl 0 w).setCell (Nat.zero_le _) _).size (fun g hg => Below.heap_setCell _ _ _ _ hg) B.level true B.spread wk (by rw [heap_setCell_same _ _ _ _ _ _ h.bd]; rfl)
set_option maxHeartbeats 1000000 in
theorem add0_any (w : World) (X : Nat → Prop) (R S W nS nW : Nat) (vc vs : Value) (wk : Int) (cg cc : Nat → Nat) (wv : Int → Value) (B : Bd) (h : Mb w X R S W nS nW vc vs wk cg cc wv B) (q : Option Addr) (cq : Nat) :
   Calls Tryz.prog 192 #[.pointer (some ⟨R, 0, none⟩), .slice q 0 cq] w (AddOut w X R S W nS nW B []) := by
 have HCL := hide (cloneI_any q cq [] (by simp) w (fun h => by simp at h))
 have H := hide h
 clear h
 go_enter Tryz.func192, Tryz.ntmps192
 go_wp2_with fail
 refine HCL.out.mono ?_
 rintro e w1 ⟨v, rfl, ho, hb1⟩
 obtain ⟨pv, cv, rfl, _⟩ := owns_ints ho
 have H1 := hide (H.out.later hb1)
 have HF1 : Hid (Fr X w w1 X) := Fr.quiet hb1
 clear ho hb1 HCL
 simp only [List.length_nil]
 go_wp2_with fail
 refine (Tryz.slices_Sort_int_none pv cv w1).mono ?_
 rintro e w2 ⟨rfl, hw2⟩
 obtain rfl : w1 = w2 := hw2.symm
 go_wp2_with fail
 refine (Tryz.slices_Compact_int_empty pv cv w1).mono ?_
 rintro e w2 ⟨rfl, hw2⟩
 obtain rfl : w1 = w2 := hw2.symm
 go_wp2_with fail
 refine (pull0_any w1 R pv cv 0 (by omega)).mono ?_
 rintro e w2 ⟨rfl, hb2⟩
 have H2 := hide (H1.out.later hb2)
 have HF2 : Hid (Fr X w w2 X) := HF1.out.trans (Fr.quiet hb2)
 clear hb2
 go_wp2_with fail
 refine (pull0_any w2 R pv cv 1 (by omega)).mono ?_
 rintro e w3 ⟨rfl, hb3⟩
 have H3 := hide (H2.out.later hb3)
 have HF3 : Hid (Fr X w w3 X) := HF2.out.trans (Fr.quiet hb3)
 have c3 := H3.out.c3
 have f3 := H3.out.fz 3
 have HM := hide H3.out.lose
 have HF : Hid (Fr X w (w3.setCell ⟨R, 3, none⟩ (.bool true)) X) := HF3.out.trans (Fr.set (q := ⟨R, 3, none⟩) H3.out.xr _)
 clear hb3
 go_wp2_with fail
 go_end0
 refine ⟨rfl, [], X, nS, nW, vc, vs, wk, cg, cc, wv, ⟨⟨fun x => Iff.rfl, by simp, fun a r e => by simp at e, fun a b r e => by simp at e⟩, by
   unfold layD
   rw [sortC_nil]
   rfl⟩, Nat.le_refl _, ?_, HF.out, by omega, by omega⟩
 unfold Bd.add
 rw [if_pos (.inl rfl)]
 exact HM.out
end Go.Proofs.YtjhkecnnhddhbaaGreatDoor.Pf

namespace Go.Proofs.YtjhkecnnhddhbaaGreatDoor.Pf
open Go.RowKit Go.Maps Go.WideMaps
set_option maxRecDepth 100000
theorem row_base {w : World} {base : Nat} {e : TypeId} {sz : Nat} {v : Value} {n : Nat} {xs : List Value} (h : w.ownsRow base e sz v n xs) : w.ownsRow 0 e sz v n xs := by
 refine ⟨h.1, ?_⟩
 rcases h.2 with hn | ⟨g, cap, cur, hv, _, rest⟩
 · exact .inl hn
 · exact .inr ⟨g, cap, cur, hv, Nat.zero_le _, rest⟩
theorem Mb.frG {w w1 : World} {X : Nat → Prop} {R S W nS nW : Nat} {vc vs : Value} {wk : Int} {cg cc : Nat → Nat} {wv : Int → Value} {B : Bd} (h : Mb w X R S W nS nW vc vs wk cg cc wv B) {G : Nat} (hG : ¬ X G) (hF : Fr (fun g => g = G) w w1 (fun g => g = G)) : Mb w1 X R S W nS nW vc vs wk cg cc wv B :=
 h.apart hF.size fun g hg => hF.far g (h.xb g hg) fun e => hG (e ▸ hg)
theorem Fr.new {X : Nat → Prop} {w w1 w2 : World} {G : Nat} (h : Fr X w w1 X) (hG : w.heap.size ≤ G) (hF : Fr (fun g => g = G) w1 w2 (fun g => g = G)) : Fr X w w2 X :=
 ⟨hF.os.trans h.os, hF.tape.trans h.tape, hF.output.trans h.output, Nat.le_trans h.size hF.size, fun g hg hx => (hF.far g (Nat.lt_of_lt_of_le hg h.size) (fun e => by omega)).trans (h.far g hg hx), fun _ e => e, fun _ _ e => e⟩
set_option maxHeartbeats 2000000 in
theorem add1_any (w : World) (X : Nat → Prop) (R S W nS nW : Nat) (vc vs : Value) (wk : Int) (cg cc : Nat → Nat) (wv : Int → Value) (B : Bd) (h : Mb w X R S W nS nW vc vs wk cg cc wv B) (q : Option Addr) (cq : Nat) (l : List Int) (hl : l.length ≤ 200) (hl0 : 0 < l.length) (hsm : ∀ x ∈ l, Small x) (hI : IntsAt w q l) (hcl : B.cl.length ≤ 1000000) (hspl : B.sp.length ≤ 1000000) (hnS : nS ≤ 1000000000000000) (hwt : ∀ x, (B.wt x).length ≤ 999999) (hnW : nW ≤ 999999999999999998) :
   Calls Tryz.prog 192 #[.pointer (some ⟨R, 0, none⟩), .slice q l.length cq] w (AddOut w X R S W nS nW B l) := by
 have HCL := hide (cloneI_any q cq l (by omega) w hI)
 have H := hide h
 have HSM := hide hsm
 clear h hI hsm
 go_enter Tryz.func192, Tryz.ntmps192
 go_wp2_with fail
 refine HCL.out.mono ?_
 rintro e w1 ⟨v, rfl, ho, hb1⟩
 obtain ⟨G, cap, hv, hGn⟩ : ∃ G cap, v = .slice (some ⟨G, 0, none⟩) l.length cap ∧ w.heap.size ≤ G := by
   rcases ho.2 with ⟨_, h0⟩ | ⟨g, c, cur, hv, hb, _⟩
   · omega
   · exact ⟨g, c, hv, hb⟩
 subst hv
 have HG : Hid (¬ X G) := fun e => by have := H.out.xb G e; omega
 have H1 := hide (H.out.later hb1)
 have HF1 : Hid (Fr X w w1 X) := Fr.quiet hb1
 have HS1 := hide (sort_any w1 G cap l hl (row_base ho))
 clear ho hb1 HCL
 go_wp2_with fail
 refine HS1.out.mono ?_
 rintro e w2 ⟨rfl, ho2, hf2⟩
 have H2 := hide (H1.out.frG HG.out hf2)
 have HF2 := hide (HF1.out.new hGn hf2)
 have hsl : (l.mergeSort fun x y => decide (x ≤ y)).length = l.length := by simp
 have HC2 := hide (compact_any w2 G cap (l.mergeSort fun x y => decide (x ≤ y)) (by omega) (by rw [hsl]; exact ho2))
 rw [hsl] at HC2
 have hd0 : Lib.compact (l.mergeSort fun x y => decide (x ≤ y)) = sortC l := rfl
 rw [hd0] at HC2
 have HOK := hide (sortC_ok l)
 have HLE : Hid ((sortC l).length ≤ l.length) := by unfold Hid; rw [← hd0, ← hsl]; exact Lib.compact_length_le _
 have HPO : Hid (0 < (sortC l).length) := by
   unfold Hid
   refine List.length_pos_of_mem ((sortC_ok l).1 l[0] |>.2 (List.getElem_mem hl0))
 clear ho2 hf2 HS1 H1 HF1 hsl hd0
 go_wp2_with fail
 refine HC2.out.mono ?_
 rintro e w3 ⟨rfl, ho3, hf3⟩
 have H3 := hide (H2.out.frG HG.out hf3)
 have HF3 := hide (HF2.out.new hGn hf3)
 have HP3 := hide (pull_any w3 X R S W nS nW vc vs wk cg cc wv B H3.out G cap (sortC l) (by have := HLE.out; omega) (fun x hx => HSM.out x ((HOK.out.1 x).1 hx)) ho3 HG.out 0 (by omega))
 clear ho3 hf3 HC2 H2 HF2
 go_wp2_with fail
 refine HP3.out.mono ?_
 rintro e w4 ⟨rfl, d1, hpu1, ho4, hM4, hf4⟩
 have H4 := hide hM4
 have HF4 := hide (HF3.out.new hGn hf4)
 have HPU1 := hide hpu1
 have hdl : d1.length = (sortC l).length := hpu1.perm.length_eq
 have HP4 := hide (pull_any w4 X R S W nS nW vc vs wk cg cc wv B hM4 G cap d1 (by rw [hdl]; have := HLE.out; omega) (fun x hx => HSM.out x ((HOK.out.1 x).1 (hpu1.perm.mem_iff.1 hx))) (by rw [hdl]; exact ho4) HG.out 1 (by omega))
 rw [hdl] at HP4
 have HDL := hide hdl
 clear hpu1 ho4 hM4 hf4 hdl H3 HF3 HP3
 go_wp2_with fail
 refine HP4.out.mono ?_
 rintro e w5 ⟨rfl, d2, hpu2, ho5, hM5, hf5⟩
 have H5 := hide hM5
 have HF5 := hide (HF4.out.new hGn hf5)
 have HLD := hide (laid_of HPU1.out (by have := hpu2; rw [HDL.out]; exact this))
 have HLX : Hid (Laid B l d2 ∧ d2 = layD B.st l) := ⟨HLD.out, by
   unfold layD
   rw [← HPU1.out.ex]
   exact hpu2.ex⟩
 have HD2 : Hid (d2.length = (sortC l).length) := hpu2.perm.length_eq.trans HDL.out
 have HR5 := hide ho5
 clear hpu2 ho5 hM5 hf5 H4 HF4 HP4
 simp only [← HD2.out]
 rw [← HD2.out] at HR5 HLE HPO
 clear HD2 HDL HPU1 HOK
 obtain ⟨a, r, hd2⟩ : ∃ a r, d2 = a :: r := by
   cases d2 with
   | nil => have := HPO.out; simp at this
   | cons a r => exact ⟨a, r, rfl⟩
 have hlm : d2.length ≤ 200 := by have := HLE.out; omega
 have hm0 : 0 < d2.length := HPO.out
 have hm0i : (0 : Int) < (d2.length : Int) := by omega
 have hm0n : ¬ ((d2.length : Nat) : Int) = 0 := by omega
 have hm0m : ¬ d2.length = 0 := by omega
 have hm0b : (((d2.length : Nat) : Int) == 0) = false := by simpa using hm0m
 have hm0d : decide (((d2.length : Nat) : Int) = 0) = false := by simpa using hm0m
 obtain ⟨x0, fx0⟩ := row_cell HR5.out hm0
 have hga : d2.getD 0 0 = a := by rw [hd2]; rfl
 rw [hga] at x0
 have hsa : Small a := HSM.out a ((HLD.out.mem a).1 (by rw [hd2]; simp))
 have HIN := hide (isNot_any R S nS B.st a hsa w5 H5.out.c5 H5.out.so)
 have HD := hide hd2
 have HGA := hide hga
 clear hd2 hga
 by_cases hna : -a ∈ B.st
 · have hd : decide (-a ∈ B.st) = true := by simpa using hna
   rw [hd] at HIN
   have c3 := H5.out.c3
   have f3 := H5.out.fz 3
   have HM := hide H5.out.lose
   have HF : Hid (Fr X w (w5.setCell ⟨R, 3, none⟩ (.bool true)) X) := HF5.out.trans (Fr.set (q := ⟨R, 3, none⟩) H5.out.xr _)
   have HNA := hide hna
   clear hd hna
   go_wp2_with (go_at_call 204; refine HIN.out.mono ?_; rintro e w' ⟨rfl, hw'⟩; obtain rfl : w5 = w' := hw'.symm)
   go_end0
   refine ⟨rfl, d2, X, nS, nW, vc, vs, wk, cg, cc, wv, HLX.out, HLE.out, ?_, HF.out, by omega, by omega⟩
   unfold Bd.add
   rw [if_pos (.inr (by rw [HGA.out]; exact HNA.out))]
   exact HM.out
 · have hd : decide (-a ∈ B.st) = false := by simpa using hna
   rw [hd] at HIN
   have HNA := hide hna
   clear hd hna
   have c0 := H5.out.c0
   have f0 := H5.out.fz 0
   obtain ⟨pc, kc, hvc⟩ : ∃ p c, vc = .slice p B.cl.length c := by
     rcases H5.out.rw.2 with ⟨e, e0⟩ | ⟨g, c, cur, e, _⟩
     · rw [e0]; exact ⟨_, _, e⟩
     · exact ⟨_, _, e⟩
   subst hvc
   go_upto_region 8 with (go_at_call 204; refine HIN.out.mono ?_; rintro e w' ⟨rfl, hw'⟩; obtain rfl : w5 = w' := hw'.symm)
   have HRWc := hide H5.out.rw
   obtain ⟨i0, hi, hz0, hz1, hz2⟩ := info_parts infoR
   have hRlt := World.block_lt_of_cell? _ _ c0
   simp only at hRlt
   have hRne := World.new_ne w5 ⟨R, 0, none⟩ c0
   simp only at hRne
   have hone : ∀ j u, ([.slice (some ⟨G, 0, none⟩) d2.length cap] : List Value)[j]? = some u → (w5.alloc (.cells #[.slice (some ⟨G, 0, none⟩) d2.length cap] 25)).cell? ((⟨w5.heap.size, 0, none⟩ : Addr).add j) = some u := fun j u hj => by
     match j, hj with
     | 0, hj => simp at hj; subst hj; simp [go_sem, Addr.add]
   have HONE := hide hone
   have HNV : Hid (Value.ownBlock (.slice pc B.cl.length kc) ≠ some R) := row_ne H5.out.rw H5.out.bd (by decide)
   clear hone
   go_wp2_with (at_builtin; refine wpList_append_lies _ rfl _ _ 28 rfl 0 25 i0 (.slice none 0 0) 1 24 Tryz.underlying28 hi hz0 hz1 hz2 rfl (by decide) (.slice pc B.cl.length kc) B.cl.length _ rfl (HRWc.out.alloc _) ⟨w5.heap.size, 0, none⟩ 1 1 [.slice (some ⟨G, 0, none⟩) d2.length cap] rfl rfl ?d0 ?d1 (by omega) ?d2 ?d3 ?d4 _ rfl ?_)
   case d0 => exact HONE.out
   case d1 => intro u hu; simp at hu; subst hu; rfl
   case d2 => unfold maxLen; omega
   case d3 => omega
   case d4 => exact Nat.zero_le _
   intro g cap2 w6 hown6 hg6 hat6 hlt6
   have ha5 : Below w5.heap.size w5 (w5.alloc (.cells #[.slice (some ⟨G, 0, none⟩) d2.length cap] 25)) := bal (Below.refl _ _) _
   have hb6 : ∀ k, k < w5.heap.size → Value.ownBlock (.slice pc B.cl.length kc) ≠ some k → w6.heap[k]? = w5.heap[k]? := fun k hk hne => (hg6.block k (by have := ha5.size; omega) (fun e => hne e.symm)).trans (ha5.block k hk)
   have t6 := (hb6 R hRlt HNV.out).trans H5.out.bd
   have hs6 := hg6.size
   have hs5 := ha5.size
   simp at hs6
   have hGlt : G < w5.heap.size := (HR5.out.lt G rfl).2
   have hGR : G ≠ R := fun e => HG.out (e ▸ H5.out.xr)
   have hGv : Value.ownBlock (.slice pc B.cl.length kc) ≠ some G := fun e => HG.out (H5.out.xc G e)
   have hgR : g ≠ R := fun e => by
     rcases hat6 with e' | e'
     · exact HNV.out (e ▸ e')
     · first | omega | (simp at e'; omega)
   have g0 : w6.cell? ⟨R, 0, none⟩ = some (.slice pc B.cl.length kc) := by rw [Lib.cell_of_heap t6]; rfl
   have f6 : w6.frozen? ⟨R, 0, none⟩ = false := Lib.frozen_of_heap t6 0
   have HFN : Hid (∀ k, k < w5.heap.size → k ≠ R → Value.ownBlock (.slice pc B.cl.length kc) ≠ some k → (w6.setCell ⟨R, 0, none⟩ (.slice (some ⟨g, 0, none⟩) (B.cl.length + 1) cap2)).heap[k]? = w5.heap[k]?) := fun k hk h1 h2 => (Below.heap_setCell _ _ _ _ h1).trans (hb6 k hk h2)
   have H7 : Hid (Mb (w6.setCell ⟨R, 0, none⟩ (.slice (some ⟨g, 0, none⟩) (B.cl.length + 1) cap2)) (fun k => X k ∨ k = g ∨ k = G) R S W nS nW (.slice (some ⟨g, 0, none⟩) (B.cl.length + 1) cap2) vs wk (fun i => if i = B.cl.length then G else cg i) (fun i => if i = B.cl.length then cap else cc i) wv { B with cl := B.cl ++ [d2] }) := by
     refine H5.out.addCl HFN.out (fun k hk => .inl hk) HG.out ?_ ?_ ?_ (fun k hk => ?_) (.inr (.inr rfl)) (fun k hk => ?_)
     · rw [heap_setCell_same _ _ _ _ _ _ t6]; rfl
     · exact ownsRow_setCell_other hown6 (by simpa [Value.ownBlock] using hgR) _
     · exact row_same HR5.out fun k hk => by
         simp only [Value.ownBlock, Option.some.injEq] at hk
         subst hk
         exact HFN.out _ hGlt hGR hGv
     · simp only [Value.ownBlock, Option.some.injEq] at hk
       exact .inr (.inl hk.symm)
     · rw [size_set]
       rcases hk with hk | rfl | rfl
       · have := H5.out.xb k hk; omega
       · exact hlt6
       · omega
   have HF7 : Hid (Fr X w (w6.setCell ⟨R, 0, none⟩ (.slice (some ⟨g, 0, none⟩) (B.cl.length + 1) cap2)) (fun k => X k ∨ k = g ∨ k = G)) := by
     have hb0 : Below 0 w5 (w6.setCell ⟨R, 0, none⟩ (.slice (some ⟨g, 0, none⟩) (B.cl.length + 1) cap2)) := ((ha5.mono (Nat.zero_le _)).grown hg6 (Nat.zero_le _) (fun _ _ => Nat.zero_le _)).setCell (Nat.zero_le _) _
     have hs0 := HF5.out.size
     refine ⟨hb0.os.trans HF5.out.os, hb0.tape.trans HF5.out.tape, hb0.output.trans HF5.out.output, Nat.le_trans hs0 hb0.size, fun k hk hx => (HFN.out k (by omega) (fun e => hx (e ▸ H5.out.xr)) (fun e => hx (H5.out.xc k e))).trans (HF5.out.far k hk hx), fun k hk => .inl hk, fun k hk hx => ?_⟩
     rcases hx with hx | rfl | rfl
     · exact hx
     · rcases hat6 with e' | e'
       · exact H5.out.xc _ e'
       · first | omega | (simp at e'; omega)
     · omega
   have hG7 := HFN.out G hGlt hGR hGv
   have HC7 : Hid (∀ j, w5.cell? ⟨G, j, none⟩ = (w6.setCell ⟨R, 0, none⟩ (.slice (some ⟨g, 0, none⟩) (B.cl.length + 1) cap2)).cell? ⟨G, j, none⟩) := fun j => (World.cell?_of_block (a := ⟨G, j, none⟩) hG7).symm
   have HR5' := hide HR5.out
   clear hown6 hg6 hat6 hlt6 ha5 hb6 hgR hG7
   go_upto_region 9 with fail
   generalize w6.setCell ⟨R, 0, none⟩ (.slice (some ⟨g, 0, none⟩) (B.cl.length + 1) cap2) = w7 at *
   clear g0 f6 t6 HFN
   have x7 : w7.cell? ⟨G, 0, none⟩ = some (.int .i64 a) := by rw [← HC7.out 0]; exact x0
   have HSO := hide (isSo_any R S nS B.st a hsa w7 H7.out.c5 H7.out.so)
   have HWT := hide hwt
   clear hwt
   cases hr : r with
   | nil =>
     have hl1 : d2.length = 1 := by rw [HD.out, hr]; rfl
     by_cases hsa' : a ∈ B.st
     · have hd : decide (a ∈ B.st) = true := by simpa using hsa'
       rw [hd] at HSO
       have HAD : Hid (B.add d2 = { B with cl := B.cl ++ [d2] }) := by
         unfold Hid Bd.add
         rw [if_neg (by rw [HGA.out]; rintro (e | e); · rw [HD.out] at e; simp at e
                        · exact HNA.out e), if_neg (by rw [HGA.out]; exact fun e => e.1 hsa')]
         rw [HD.out, hr]; rfl
       have hl1i : ((d2.length : Nat) : Int) = 1 := by omega
       clear hd hsa' hr
       go_wp2_with (go_at_call 203; refine HSO.out.mono ?_; rintro e w' ⟨rfl, hw'⟩; obtain rfl : w7 = w' := hw'.symm)
       go_end0
       exact ⟨rfl, d2, _, nS, nW, _, vs, wk, _, _, wv, HLX.out, HLE.out, by rw [HAD.out]; exact H7.out, HF7.out, by omega, by omega⟩
     · have hd : decide (a ∈ B.st) = false := by simpa using hsa'
       rw [hd] at HSO
       have HAD : Hid (B.add d2 = ({ B with cl := B.cl ++ [d2] } : Bd).put a B.cl.length) := by
         unfold Hid Bd.add
         rw [if_neg (by rw [HGA.out]; rintro (e | e); · rw [HD.out] at e; simp at e
                        · exact HNA.out e), if_pos (by rw [HGA.out]; exact ⟨hsa', .inl hl1⟩), HGA.out]
         rw [HD.out, hr]; rfl
       have HPU := hide (put_any w7 _ R S W nS nW _ vs wk _ _ wv _ H7.out a (B.cl.length : Nat) hsa hsa' hspl hnS)
       have hl1i : ((d2.length : Nat) : Int) = 1 := by omega
       clear hd hsa' hr
       go_wp2_with (first | (go_at_call 203; refine HSO.out.mono ?_; rintro e w' ⟨rfl, hw'⟩; obtain rfl : w7 = w' := hw'.symm) | (go_at_call 215; refine HPU.out.mono ?_; rintro e w8 ⟨rfl, X8, vs8, wk8, hM8, hF8⟩))
       have HM8 := hide hM8
       have HF8 := hide (HF7.out.trans hF8)
       clear hM8 hF8
       go_end0
       exact ⟨rfl, d2, X8, nS + 1, nW, _, vs8, wk8, _, _, wv, HLX.out, HLE.out, by rw [HAD.out]; exact HM8.out, HF8.out, by omega, by omega⟩
   | cons b r' =>
     have hl2 : 1 < d2.length := by rw [HD.out, hr]; simp
     have hl2i : (1 : Int) < (d2.length : Int) := by omega
     have hl2n : ¬ d2.length = 1 := by omega
     have hl2m : ¬ ((d2.length : Nat) : Int) = 1 := by omega
     have hl2b : (((d2.length : Nat) : Int) == 1) = false := by simp only [beq_eq_false_iff_ne, ne_eq]; omega
     have hgb : d2.getD 1 0 = b := by rw [HD.out, hr]; rfl
     have y7 : w7.cell? ⟨G, 1, none⟩ = some (.int .i64 b) := by rw [← HC7.out 1, ← hgb]; exact (row_cell HR5.out hl2).1
     have hsb : Small b := HSM.out b ((HLD.out.mem b).1 (by rw [HD.out, hr]; simp))
     have hab : a ≠ b := by
       have := HLD.out.nd
       rw [HD.out, hr] at this
       intro e
       subst e
       simp at this
     have HCE : Hid (∀ (u : World) (X' : Nat → Prop) (nW' : Nat) (wv' : Int → Value) (wt' : Int → List (Nat × Int)), Mb u X' R S W nS nW' (.slice (some ⟨g, 0, none⟩) (B.cl.length + 1) cap2) vs wk (fun i => if i = B.cl.length then G else cg i) (fun i => if i = B.cl.length then cap else cc i) wv' { B with cl := B.cl ++ [d2], wt := wt' } → u.cell? ⟨G, 0, none⟩ = some (.int .i64 a) ∧ u.cell? ⟨G, 1, none⟩ = some (.int .i64 b)) := fun u X' nW' wv' wt' hM => by
       have hgd : (B.cl ++ [d2]).getD B.cl.length [] = d2 := by simp [List.getD]
       have h0 := hM.ints (i := B.cl.length) (by simp) (j := 0) (by simp only [hgd]; exact hm0)
       have h1 := hM.ints (i := B.cl.length) (by simp) (j := 1) (by simp only [hgd]; exact hl2)
       simp only [hgd, if_true] at h0 h1
       simp only [HD.out, hr, List.getElem_cons_zero, List.getElem_cons_succ] at h0 h1
       exact ⟨h0, h1⟩
     have HWA := hide (fun (u : World) (hu : Below w7.heap.size w7 u) => watch_any u _ R S W nS nW _ vs wk _ _ wv _ (H7.out.later hu) a B.cl.length b hsa (show (B.wt a).length ≤ 1000000 by have := HWT.out a; omega) (by omega))
     go_upto_region 10 with fail
     go_region_held3 (fun w' => w'.cell? ⟨G, 0, none⟩ = some (.int .i64 a) ∧ w'.cell? ⟨G, 1, none⟩ = some (.int .i64 b)) (first | exact ⟨x7, y7⟩ | exact ⟨a8, b8⟩ | go_keep)
       ((go_at_call 214; refine (HWA.out w7.drew (Below.refl _ w7).drew).mono ?_; rintro e w8 ⟨rfl, X8, v8, hM8, hF8⟩; have HM8 := hide hM8; have HF8 := hide (HF7.out.trans ((Fr.quiet (Below.refl _ w7).drew).trans hF8)); obtain ⟨a8, b8⟩ := HCE.out _ _ _ _ _ hM8; clear hM8 hF8))
     have HWB := hide (fun (u : World) (hu : Below w8.heap.size w8 u) => watch_any u X8 R S W nS (nW + 1) _ vs wk _ _ _ _ (HM8.out.later hu) b B.cl.length a hsb (show (upd B.wt a (B.wt a ++ [(B.cl.length, b)]) b).length ≤ 1000000 by rw [upd_ne _ _ (Ne.symm hab)]; have := HWT.out b; omega) (by omega))
     go_upto_region 11 with fail
     go_region_held3 (fun w' => w'.cell? ⟨G, 0, none⟩ = some (.int .i64 a) ∧ w'.cell? ⟨G, 1, none⟩ = some (.int .i64 b)) (first | exact ⟨a8, b8⟩ | exact ⟨a9, b9⟩ | go_keep)
       ((go_at_call 214; refine (HWB.out w8.drew (Below.refl _ w8).drew).mono ?_; rintro e w9 ⟨rfl, X9, v9, hM9, hF9⟩; have HM9 := hide hM9; have HF9 := hide (HF8.out.trans ((Fr.quiet (Below.refl _ w8).drew).trans hF9)); obtain ⟨a9, b9⟩ := HCE.out _ _ _ _ _ hM9; clear hM9 hF9))
     have HSO9 := hide (isSo_any R S nS B.st a hsa w9 HM9.out.c5 HM9.out.so)
     have HIN9 := hide (isNot_any R S nS B.st b hsb w9 HM9.out.c5 HM9.out.so)
     have HNL : Hid (¬ (d2 = [] ∨ -(d2.getD 0 0) ∈ B.st)) := by
       unfold Hid
       rw [HGA.out]
       rintro (e | e)
       · rw [HD.out] at e; simp at e
       · exact HNA.out e
     have HW2 : Hid (B.wat2 d2 = upd (upd B.wt a (B.wt a ++ [(B.cl.length, b)])) b (upd B.wt a (B.wt a ++ [(B.cl.length, b)]) b ++ [(B.cl.length, a)])) := by unfold Hid; rw [HD.out, hr]; rfl
     have HGB := hide hgb
     clear x7 y7 a8 b8 hgb HWA HWB HM8 HF8 H7 HF7 HCE HSO hr
     by_cases hsa' : a ∈ B.st
     · have hd : decide (a ∈ B.st) = true := by simpa using hsa'
       rw [hd] at HSO9
       have HAD : Hid (B.add d2 = { B with cl := B.cl ++ [d2], wt := B.wat2 d2 }) := by
         unfold Hid Bd.add
         rw [if_neg HNL.out, if_neg (by rw [HGA.out]; exact fun e => e.1 hsa')]
       rw [HW2.out] at HAD
       clear hd hsa'
       go_wp2_with (first | (go_at_call 203; refine HSO9.out.mono ?_; rintro e w' ⟨rfl, hw'⟩; obtain rfl : w9 = w' := hw'.symm) | (go_at_call 204; refine HIN9.out.mono ?_; rintro e w' ⟨rfl, hw'⟩; obtain rfl : w9 = w' := hw'.symm))
       go_end0
       exact ⟨rfl, d2, X9, nS, nW + 1 + 1, _, vs, wk, _, _, _, HLX.out, HLE.out, by rw [HAD.out]; exact HM9.out, HF9.out, by omega, by omega⟩
     · have hd : decide (a ∈ B.st) = false := by simpa using hsa'
       rw [hd] at HSO9
       by_cases hnb : -b ∈ B.st
       · have hdb : decide (-b ∈ B.st) = true := by simpa using hnb
         rw [hdb] at HIN9
         have HAD : Hid (B.add d2 = ({ B with cl := B.cl ++ [d2], wt := B.wat2 d2 } : Bd).put a B.cl.length) := by
           unfold Hid Bd.add
           rw [if_neg HNL.out, if_pos (by rw [HGA.out, HGB.out]; exact ⟨hsa', .inr hnb⟩), HGA.out]
         rw [HW2.out] at HAD
         have HPU := hide (put_any w9 X9 R S W nS (nW + 1 + 1) _ vs wk _ _ _ _ HM9.out a (B.cl.length : Nat) hsa hsa' hspl hnS)
         clear hd hsa' hdb hnb
         go_wp2_with (first | (go_at_call 203; refine HSO9.out.mono ?_; rintro e w' ⟨rfl, hw'⟩; obtain rfl : w9 = w' := hw'.symm) | (go_at_call 204; refine HIN9.out.mono ?_; rintro e w' ⟨rfl, hw'⟩; obtain rfl : w9 = w' := hw'.symm) | (go_at_call 215; refine HPU.out.mono ?_; rintro e w10 ⟨rfl, X10, vs10, wk10, hM10, hF10⟩))
         have HM10 := hide hM10
         have HF10 := hide (HF9.out.trans hF10)
         clear hM10 hF10
         go_end0
         exact ⟨rfl, d2, X10, nS + 1, nW + 1 + 1, _, vs10, wk10, _, _, _, HLX.out, HLE.out, by rw [HAD.out]; exact HM10.out, HF10.out, by omega, by omega⟩
       · have hdb : decide (-b ∈ B.st) = false := by simpa using hnb
         rw [hdb] at HIN9
         have HAD : Hid (B.add d2 = { B with cl := B.cl ++ [d2], wt := B.wat2 d2 }) := by
           unfold Hid Bd.add
           rw [if_neg HNL.out, if_neg (by rw [HGA.out, HGB.out]; rintro ⟨_, e | e⟩; · exact hl2n e
                                          · exact hnb e)]
         rw [HW2.out] at HAD
         clear hd hsa' hdb hnb
         go_wp2_with (first | (go_at_call 203; refine HSO9.out.mono ?_; rintro e w' ⟨rfl, hw'⟩; obtain rfl : w9 = w' := hw'.symm) | (go_at_call 204; refine HIN9.out.mono ?_; rintro e w' ⟨rfl, hw'⟩; obtain rfl : w9 = w' := hw'.symm))
         go_end0
         exact ⟨rfl, d2, X9, nS, nW + 1 + 1, _, vs, wk, _, _, _, HLX.out, HLE.out, by rw [HAD.out]; exact HM9.out, HF9.out, by omega, by omega⟩
end Go.Proofs.YtjhkecnnhddhbaaGreatDoor.Pf

namespace Go.Proofs.YtjhkecnnhddhbaaGreatDoor.Pf
theorem li_of {V : Int} {L : List (List Int)} {ch : Int → Prop} {B : Bd} (h : Inv V L ch B) {n : Int} (hn : B.st[B.spread]? = some n) : ∃ D, LI V (-n) D ch { B with spread := B.spread + 1 } [] (B.wt (-n)) := by
 have hnm : n ∈ B.st := List.mem_of_getElem? hn
 obtain ⟨hlt, hne⟩ := List.getElem?_eq_some_iff.1 hn
 have hlt' : B.spread < B.sp.length := by rw [← st_len]; exact hlt
 have hD : ∃ D, (B.lost = false → D = B.st.take B.spread) ∧ (∀ m ∈ D, m ∈ B.st) ∧ Cmp B D := by
   cases hl : B.lost
   · exact ⟨_, fun _ => rfl, fun m hm => List.mem_of_mem_take hm, h.cmp hl⟩
   · exact ⟨[], (fun e => by cases e), (fun m hm => by simp at hm), h.one⟩
 obtain ⟨D, hD1, hD2, hD3⟩ := hD
 refine ⟨D, ?_, by rw [Int.neg_neg]; exact hnm, ⟨hD3.one, hD3.dn, hD3.dz⟩, hD2, ⟨h.snd.st, h.snd.zs⟩, fun p hp => by simp at hp, h.le⟩
 simp only [List.nil_append, upd_self]
 exact ⟨h.wf.cl, h.wf.sn, h.wf.sc, h.wf.sr, hlt', h.wf.wi, h.wf.wd, h.wf.wa, h.wf.lv⟩
theorem look_cl (nt : Int) (rest : List (Nat × Int)) : ∀ (B : Bd) (kept : List (Nat × Int)), (look nt B kept rest).1.cl.length = B.cl.length := by
 induction rest with
 | nil => intro B kept; rfl
 | cons p rest ih =>
   obtain ⟨i, o⟩ := p
   intro B kept
   unfold look
   split
   · exact ih _ _
   · split
     · rw [ih]; simp
     · split
       · simp
       · split
         · rw [ih]; simp
         · rw [ih]; simp [Bd.put]
theorem lookAt_cl (B : Bd) (nt : Int) : (B.lookAt nt).1.cl.length = B.cl.length := look_cl nt _ B []
def spreadN : Nat → Bd → Option (Bd × Int)
 | 0, _ => none
 | g + 1, B => if B.spread < B.sp.length then
     (if (({ B with spread := B.spread + 1 } : Bd).lookAt (-(B.st.getD B.spread 0))).2 = -1 then spreadN g (({ B with spread := B.spread + 1 } : Bd).lookAt (-(B.st.getD B.spread 0))).1
       else some ({ (({ B with spread := B.spread + 1 } : Bd).lookAt (-(B.st.getD B.spread 0))).1 with lost := (({ B with spread := B.spread + 1 } : Bd).lookAt (-(B.st.getD B.spread 0))).1.lost || decide ((({ B with spread := B.spread + 1 } : Bd).lookAt (-(B.st.getD B.spread 0))).1.level = 0) }, (({ B with spread := B.spread + 1 } : Bd).lookAt (-(B.st.getD B.spread 0))).2))
   else some (B, -1)
theorem spread_mono : ∀ (g : Nat) (B : Bd) (r : Bd × Int), spreadN g B = some r → spreadN (g + 1) B = some r := by
 intro g
 induction g with
 | zero => intro B r h; cases h
 | succ g ih =>
   intro B r h
   rw [spreadN] at h ⊢
   split
   · rename_i h1
     rw [if_pos h1] at h
     split
     · rename_i h2
       rw [if_pos h2] at h
       exact ih _ _ h
     · rename_i h2
       rw [if_neg h2] at h
       exact h
   · rename_i h1
     rw [if_neg h1] at h
     exact h
theorem spread_more {g : Nat} {B : Bd} {r : Bd × Int} (h : spreadN g B = some r) (d : Nat) : spreadN (g + d) B = some r := by
 induction d with
 | zero => exact h
 | succ d ih => exact spread_mono _ _ _ ih
theorem spread_one {g g' : Nat} {B : Bd} {r r' : Bd × Int} (h : spreadN g B = some r) (h' : spreadN g' B = some r') : r = r' := by
 have h1 := spread_more h g'
 have h2 := spread_more h' g
 rw [Nat.add_comm g' g, h1] at h2
 exact Option.some.inj h2
structure Spr (V : Int) (L : List (List Int)) (ch : Int → Prop) (B B' : Bd) (f : Int) : Prop where
 level : B'.level = B.level
 cl : B'.cl.length = B.cl.length
 ok : f = -1 → Inv V L ch B' ∧ B'.spread = B'.sp.length ∧ B'.lost = B.lost
 sp : ∃ t, B'.sp = B.sp ++ t
 bad : f ≠ -1 → (B.lost = false → Confl L ch) ∧ (0 < B.level → Inw V L ch B' ∧ B'.lost = B.lost) ∧ (B.level = 0 → Inv V L ch B' ∧ B'.lost = true)
 ex : ∃ g, spreadN g B = some (B', f)
structure Spn (V : Int) (L : List (List Int)) (ch : Int → Prop) (B B' : Bd) : Prop where
 level : B'.level = B.level
 cl : B'.cl.length = B.cl.length
 lost : B'.lost = B.lost
 inv : Inv V L ch B'
 spread : B.spread ≤ B'.spread
 sp : ∃ t, B'.sp = B.sp ++ t
 ex : ∀ g r, spreadN g B' = some r → ∃ g', spreadN g' B = some r
theorem Spn.refl {V : Int} {L : List (List Int)} {ch : Int → Prop} {B : Bd} (h : Inv V L ch B) : Spn V L ch B B := ⟨rfl, rfl, rfl, h, Nat.le_refl _, ⟨[], by simp⟩, fun g r e => ⟨g, e⟩⟩
section
variable {V : Int} {L : List (List Int)} {ch : Int → Prop} {B B' : Bd}
theorem Spn.done (h : Spn V L ch B B') (hs : ¬ B'.spread < B'.sp.length) : Spr V L ch B B' (-1) := ⟨h.level, h.cl, fun _ => ⟨h.inv, by have := h.inv.wf.sp; omega, h.lost⟩, h.sp, fun e => absurd rfl e, h.ex 1 _ (by rw [spreadN, if_neg hs])⟩
theorem Spn.step (h : Spn V L ch B B') {n : Int} (hn : B'.st[B'.spread]? = some n) {B2 : Bd} {f : Int} (e : ({ B' with spread := B'.spread + 1 } : Bd).lookAt (-n) = (B2, f)) :
   B2.spread = B'.spread + 1 ∧ (f = -1 → Spn V L ch B B2) ∧ (f ≠ -1 → Spr V L ch B { B2 with lost := B2.lost || decide (B2.level = 0) } f) ∧ B2.level = B.level ∧ 0 ≤ B2.level ∧ B2.sp.length ≤ (2 * V + 1).toNat := by
 have hs := step_ok h.inv hn
 have hc := lookAt_cl { B' with spread := B'.spread + 1 } (-n)
 rw [e] at hs hc
 simp only at hs hc
 have hlv : B2.level = B.level := hs.level.trans h.level
 have h0 : 0 ≤ B2.level := by rw [hlv, ← h.level]; exact h.inv.le
 have hl := nodup_len hs.wf.sn hs.wf.sr
 rw [st_len] at hl
 have hsp : ∃ t, B2.sp = B.sp ++ t := by
   obtain ⟨t, h1⟩ := h.sp
   obtain ⟨u, h2⟩ := hs.sp
   exact ⟨t ++ u, by rw [h2, h1, List.append_assoc]⟩
 have hlt : B'.spread < B'.sp.length := by
   have := (List.getElem?_eq_some_iff.1 hn).1
   rw [st_len] at this
   exact this
 have hgn : B'.st.getD B'.spread 0 = n := by rw [List.getD_eq_getElem?_getD, hn]; rfl
 refine ⟨hs.spread, fun ef => ⟨hlv, hc.trans h.cl, hs.lost.trans h.lost, hs.ok ef, by rw [hs.spread]; have := h.spread; omega, hsp, fun g r e3 => h.ex (g + 1) r (by rw [spreadN, if_pos hlt, hgn, e, if_pos ef]; exact e3)⟩, fun ef => ?_, hlv, h0, hl⟩
 obtain ⟨_, b1, b2, b3⟩ := hs.bad ef
 refine ⟨hlv, hc.trans h.cl, fun e1 => absurd e1 ef, hsp, fun _ => ⟨fun e1 => b1 (h.lost.trans e1), fun e1 => ?_, fun e1 => ?_⟩, h.ex 1 _ (by rw [spreadN, if_pos hlt, hgn, e, if_neg ef])⟩
 · have hd : decide (B2.level = 0) = false := by simp; omega
   have : ({ B2 with lost := B2.lost || decide (B2.level = 0) } : Bd) = B2 := by rw [hd, Bool.or_false]
   rw [this]
   exact ⟨b2 (by rw [h.level]; exact e1), hs.lost.trans h.lost⟩
 · have hd : decide (B2.level = 0) = true := by simp; omega
   rw [hd, Bool.or_true]
   exact ⟨b3 (by rw [h.level]; exact e1), rfl⟩
end
section
variable {V : Int} {L : List (List Int)} {c : List Int} {k : Nat} {B B1 : Bd} {ch : Int → Prop}
end
end Go.Proofs.YtjhkecnnhddhbaaGreatDoor.Pf

namespace Go.Proofs.YtjhkecnnhddhbaaGreatDoor.Pf
open Go.RowKit Go.Maps Go.WideMaps
set_option maxRecDepth 100000
def BdAt (w : World) (X : Nat → Prop) (R nS nW : Nat) (B : Bd) : Prop := ∃ S W vc vs wk cg cc wv, Mb w X R S W nS nW vc vs wk cg cc wv B
def SprOut (w : World) (X : Nat → Prop) (R nS nW : Nat) (V : Int) (L : List (List Int)) (ch : Int → Prop) (B : Bd) (e : Ending) (w' : World) : Prop :=
 ∃ f B' X' nS' nW', e = .returned (.int .i64 f) ∧ BdAt w' X' R nS' nW' B' ∧ Fr X w w' X' ∧ nS' + B.sp.length ≤ nS + B'.sp.length ∧ nW' ≤ nW + 320100000000 ∧ B'.sp.length ≤ (2 * V + 1).toNat ∧ Spr V L ch B B' f
theorem Mb.stepAt {w : World} {X : Nat → Prop} {R S W nS nW : Nat} {vc vs : Value} {wk : Int} {cg cc : Nat → Nat} {wv : Int → Value} {B : Bd} (h : Mb w X R S W nS nW vc vs wk cg cc wv B) {j : Nat} (hj : j < B.sp.length) : ∃ g cap, vs = .slice (some ⟨g, 0, none⟩) B.sp.length cap ∧ w.cell? ⟨g, j * 3, none⟩ = some (.int .i64 B.sp[j].1) := by
 have hr := h.st
 rcases hr.2 with ⟨_, h0⟩ | ⟨g, cap, cur, e, _⟩
 · omega
 · refine ⟨g, cap, e, ?_⟩
   rw [e] at hr
   have := hr.cellAt (j * 3) (by show j * 3 < B.sp.length * 3; omega)
   rw [(flatS_at hj).1] at this
   exact this
set_option maxHeartbeats 4000000 in
theorem spread_any (w : World) (X : Nat → Prop) (R nS nW : Nat) (B : Bd) (hB : BdAt w X R nS nW B) (V : Int) (L : List (List Int)) (ch : Int → Prop) (hI : Inv V L ch B) (hV : V ≤ 200000) (hcl : B.cl.length ≤ 800000) (hnS : nS ≤ 10000000000000) (hnW : nW ≤ 800000000000000000) :
   Calls Tryz.prog 178 #[.pointer (some ⟨R, 0, none⟩)] w (SprOut w X R nS nW V L ch B) := by
 have HJ0 : Hid (BdAt w X R nS nW B ∧ Fr X w w X ∧ Spn V L ch B B) := ⟨hB, Fr.refl _ _, Spn.refl hI⟩
 clear hB hI
 go_enter Tryz.func178, Tryz.ntmps178
 go_wp2_with fail
 go_loopw [] (fun wr => ∃ (k : Nat), Hid (wr.cell? ⟨R, 7, none⟩ = some (.int .i64 k)) ∧ Hid (∃ B' X' nS' nW', BdAt wr X' R nS' nW' B' ∧ Fr X w wr X' ∧ Spn V L ch B B' ∧ B'.spread = k ∧ nS' + B.sp.length ≤ nS + B'.sp.length ∧ nW' + B.spread * 800001 ≤ nW + B'.spread * 800001)) (fun wr => 400002 - (intOf ((wr.cell? ⟨R, 7, none⟩).getD (.int .i64 0))).toNat)
 case atStart =>
   obtain ⟨hb, hf, hs⟩ := HJ0.out
   refine ⟨B.spread, ?_, B, X, nS, nW, hb, hf, hs, rfl, Nat.le_refl _, Nat.le_refl _⟩
   obtain ⟨S, W, vc, vs, wk, cg, cc, wv, hM⟩ := hb
   exact hM.c7
 case round =>
   obtain ⟨k, hck, HJ⟩ := hrel
   obtain ⟨B1, X1, nS1, nW1, hb1, hF1, hN1, hk1, hnS1, hnW1⟩ := HJ.out
   obtain ⟨S, W, vc, vs, wk, cg, cc, wv, hM1⟩ := hb1
   have hspl := hN1.inv.wf.spLen hV
   have hspr := hN1.inv.wf.sp
   have c7 := hM1.c7
   have c1 := hM1.c1
   rw [hk1] at c7
   have hkl : k ≤ B1.sp.length := by omega
   obtain ⟨ps, cs, hvs⟩ : ∃ p c, vs = .slice p B1.sp.length c := by
     rcases hM1.st.2 with ⟨e, e0⟩ | ⟨g, c, cur, e, _⟩
     · rw [e0]; exact ⟨_, _, e⟩
     · exact ⟨_, _, e⟩
   by_cases hlt : k < B1.sp.length
   · obtain ⟨g, cap, hvs', x0⟩ := hM1.stepAt hlt
     obtain ⟨n, hn⟩ : ∃ n, B1.sp[k].1 = n := ⟨_, rfl⟩
     rw [hn] at x0
     rw [hvs'] at c1
     have hst : B1.st[B1.spread]? = some n := by
       unfold Bd.st
       rw [List.getElem?_map, hk1, List.getElem?_eq_getElem hlt]
       simp [hn]
     have hsmn : Small n := (hN1.inv.wf.sr n (List.mem_of_getElem? hst)).small hV
     have hn1 := hsmn.1
     have hn2 := hsmn.2
     obtain ⟨D, hLI⟩ := li_of hN1.inv hst
     obtain ⟨B2, f, hlk⟩ : ∃ B2 f, ({ B1 with spread := B1.spread + 1 } : Bd).lookAt (-n) = (B2, f) := ⟨_, _, rfl⟩
     have HST := hide (hN1.step hst hlk)
     obtain ⟨m, hm⟩ : ∃ m, B1.sp.length = m := ⟨_, rfl⟩
     have hlti : (k : Int) < (m : Int) := by omega
     have hltm : k < m := by omega
     have hmm : m ≤ 400001 := by omega
     rw [hm] at c1
     have hcl1 : B1.cl.length ≤ 800000 := by rw [hN1.cl]; exact hcl
     have f7 := hM1.fz 7
     have HMD : Hid (Mb (wr.setCell ⟨R, 7, none⟩ (.int .i64 ((k : Int) + 1))).drew.drew X1 R S W nS1 nW1 vc vs wk cg cc wv { B1 with spread := B1.spread + 1 }) := by
       rw [hk1]
       exact (hM1.board (w1 := wr.setCell ⟨R, 7, none⟩ (.int .i64 ((k : Int) + 1))) ((Below.refl 0 _).setCell (Nat.zero_le _) _).size (fun g hg => Below.heap_setCell _ _ _ _ hg) B1.level B1.lost (k + 1) wk (by rw [heap_setCell_same _ _ _ _ _ _ hM1.bd]; rfl)).later ((Below.refl _ _).drew).drew
     have HFD : Hid (Fr X w (wr.setCell ⟨R, 7, none⟩ (.int .i64 ((k : Int) + 1))).drew.drew X1) := (hF1.trans (Fr.set (q := ⟨R, 7, none⟩) hM1.xr _)).trans (Fr.quiet ((Below.refl _ _).drew).drew)
     have HLA := hide (lookAt_any _ X1 R S W nS1 nW1 vc vs wk cg cc wv _ HMD.out V (-n) D ch hLI hV hsmn.neg hcl1 (by omega) (by omega))
     have HN := hide (And.intro hnS1 (And.intro hnW1 (And.intro hk1 hm)))
     have HLK := hide hlk
     have HSPR : Hid (B.spread ≤ k) := by unfold Hid; rw [← hk1]; exact hN1.spread
     clear hM1 hF1 hN1 hnS1 hnW1 hspl hspr HJ hvs hkl hk1 hm hlk hst hLI hcl1 hsmn hn hvs'
     go_upto_region 1 with fail
     go_region_held3 (fun w' => w'.cell? ⟨R, 7, none⟩ = some (.int .i64 k) ∧ w'.cell? ⟨R, 1, none⟩ = some (.slice (some ⟨g, 0, none⟩) m cap)) (first | exact ⟨c7, c1⟩ | go_keep) (fail)
     go_upto_region 2 with fail
     go_region_held3 (fun w' => w'.cell? ⟨R, 7, none⟩ = some (.int .i64 k) ∧ w'.cell? ⟨R, 1, none⟩ = some (.slice (some ⟨g, 0, none⟩) m cap) ∧ w'.cell? ⟨g, k * 3, none⟩ = some (.int .i64 n)) (first | exact ⟨c7, c1, x0⟩ | go_keep) (fail)
     go_upto_region 4 with fail
     generalize (wr.setCell ⟨R, 7, none⟩ (.int .i64 ((k : Int) + 1))).drew.drew = w2 at *
     clear c7 c1 x0 f7
     go_wp2_with fail
     refine HLA.out.mono ?_
     unfold LkOut
     rw [HLK.out]
     rintro e w3 ⟨rfl, X3, nS3, nW3, vs3, wk3, wv3, hM3, hF3, hnS3, hnW3⟩
     have HM3 := hide hM3
     have HF3 := hide (HFD.out.trans hF3)
     have HN3 := hide (And.intro hnS3 hnW3)
     clear hM3 hF3 hnS3 hnW3 HLA
     by_cases hf : f = -1
     · subst hf
       have c7' := HM3.out.c7
       rw [HST.out.1] at c7'
       have HC7 := hide c7'
       clear c7'
       go_wp2_with fail
       go_roundw
       case rel =>
         refine ⟨k + 1, ?_, B2, X3, nS3, nW3, ⟨_, _, _, _, _, _, _, _, HM3.out⟩, HF3.out, (by first | exact HST.out.2.1 rfl | exact HST.out.2.1 trivial), ?_, ?_, ?_⟩
         · have := HC7.out
           rw [HN.out.2.2.1] at this
           exact this
         · rw [HST.out.1, HN.out.2.2.1]
         · have := HN.out.1; have := HN3.out.1; omega
         · have h1 := HN.out.2.1; have h2 := HN3.out.2; have h3 := HST.out.1; omega
       case measure =>
         have h1 := HC7.out
         rw [HN.out.2.2.1] at h1
         have h2 := hck.out
         rw [h1, h2]
         simp [intOf]
         omega
     · have hfb : (f == -1) = false := by simpa using hf
       have HSP := hide (HST.out.2.2.1 hf)
       have HLV := hide HST.out.2.2.2
       have c2 := HM3.out.c2
       have c3 := HM3.out.c3
       have f3 := HM3.out.fz 3
       have HM4 : Hid (Mb (w3.setCell ⟨R, 3, none⟩ (.bool (B2.lost || decide (B2.level = 0)))) X3 R S W nS3 nW3 vc vs3 wk3 cg cc wv3 { B2 with lost := B2.lost || decide (B2.level = 0) }) :=
         HM3.out.board ((Below.refl 0 _).setCell (Nat.zero_le _) _).size (fun g hg => Below.heap_setCell _ _ _ _ hg) B2.level (B2.lost || decide (B2.level = 0)) B2.spread wk3 (by rw [heap_setCell_same _ _ _ _ _ _ HM3.out.bd]; rfl)
       have HF4 : Hid (Fr X w (w3.setCell ⟨R, 3, none⟩ (.bool (B2.lost || decide (B2.level = 0)))) X3) := HF3.out.trans (Fr.set (q := ⟨R, 3, none⟩) HM3.out.xr _)
       have HEND : Hid (∀ u, Mb u X3 R S W nS3 nW3 vc vs3 wk3 cg cc wv3 { B2 with lost := B2.lost || decide (B2.level = 0) } → Fr X w u X3 → SprOut w X R nS nW V L ch B (.returned (.int .i64 f)) u) := fun u h1 h2 => by
         refine ⟨f, _, X3, nS3, nW3, rfl, ⟨_, _, _, _, _, _, _, _, h1⟩, h2, ?_, ?_, HLV.out.2.2, HSP.out⟩
         · show nS3 + B.sp.length ≤ nS + B2.sp.length
           have h8 := HN.out.1
           have h9 : nS3 + B1.sp.length ≤ nS1 + B2.sp.length := HN3.out.1
           omega
         · have h3 := HN.out.2.1; have h4 := HN3.out.2; have h5 := HN.out.2.2.1; omega
       clear HST
       cases hlo : B2.lost
       · rw [hlo] at c3 HM4 HF4 HEND
         by_cases hlv : B2.level = 0
         · have hd : decide (B2.level = 0) = true := by simpa using hlv
           rw [hd] at HM4 HF4 HEND
           simp only [Bool.or_true] at HM4 HF4 HEND
           rw [hlv] at c2
           clear hd hlv
           go_wp2_with fail
           go_ret
           exact HEND.out _ HM4.out HF4.out
         · have hd : decide (B2.level = 0) = false := by simpa using hlv
           rw [hd] at HM4 HF4 HEND
           simp only [Bool.or_false] at HM4 HF4 HEND
           have hlvb : (B2.level == 0) = false := by simpa using hlv
           clear hd
           go_wp2_with fail
           go_ret
           exact HEND.out _ HM4.out HF4.out
       · rw [hlo] at c3 HM4 HF4 HEND
         simp only [Bool.true_or] at HM4 HF4 HEND
         go_wp2_with fail
         go_ret
         exact HEND.out _ HM4.out HF4.out
   · have HD := hide (hN1.done (by omega))
     have HE : Hid (SprOut w X R nS nW V L ch B (.returned (.int .i64 (-1))) wr.drew) := by
       refine ⟨-1, B1, X1, nS1, nW1, rfl, ⟨S, W, vc, vs, wk, cg, cc, wv, hM1.later (Below.refl _ wr).drew⟩, hF1.trans (Fr.quiet (Below.refl _ wr).drew), hnS1, ?_, ?_, HD.out⟩
       · omega
       · have := nodup_len hN1.inv.wf.sn hN1.inv.wf.sr
         rw [st_len] at this
         exact this
     rw [hvs] at c1
     obtain ⟨m, hm⟩ : ∃ m, B1.sp.length = m := ⟨_, rfl⟩
     have hlti : ¬ (k : Int) < (m : Int) := by omega
     rw [hm] at c1
     clear hM1 hF1 hN1 hnS1 hnW1 hspl hspr HJ HD hvs hkl hk1 hm
     go_upto_region 1 with fail
     go_region_held3 (fun w' => w'.cell? ⟨R, 7, none⟩ = some (.int .i64 k) ∧ w'.cell? ⟨R, 1, none⟩ = some (.slice ps m cs)) (first | exact ⟨c7, c1⟩ | go_keep) (fail)
     go_wp2_with fail
     go_ret
     exact HE.out
end Go.Proofs.YtjhkecnnhddhbaaGreatDoor.Pf

namespace Go.Proofs.YtjhkecnnhddhbaaGreatDoor.Pf
open Go.RowKit Go.Maps Go.WideMaps
set_option maxRecDepth 100000
theorem map_empty {H : Type} {w : World} {P : Program} {k : TypeId} {R : Value → Option (DataW H × List MemPlace)} {b : Nat} (h : w.heap[b]? = some (.map #[] 0)) : w.ownsMap P k R b 0 (.map []) := ⟨#[], 0, h, ⟨by simp, Go.MapKept.stamped_empty 0, by simp⟩, Nat.le_refl _, rfl⟩
theorem heap_new (w : World) (o : Obj) : (w.alloc o).heap[w.heap.size]? = some o := (MapKept.heap_alloc w o).1
theorem heap_old (w : World) (o : Obj) {g : Nat} (h : g < w.heap.size) : (w.alloc o).heap[g]? = w.heap[g]? := (bal (Below.refl _ w) o).block g h
theorem size_new (w : World) (o : Obj) : (w.alloc o).heap.size = w.heap.size + 1 := by simp
theorem run_mk103 (w : World) : (Instr.makeMap 127 none).run Tryz.prog w = .ok (.map (some w.heap.size)) (w.alloc (.map #[] 0)) := rfl
theorem run_mk104 (w : World) : (Instr.makeMap 206 none).run Tryz.prog w = .ok (.map (some w.heap.size)) (w.alloc (.map #[] 0)) := rfl
def AdOut (w : World) (X : Nat → Prop) (R nS nW : Nat) (V : Int) (L : List (List Int)) (B : Bd) (l : List Int) (e : Ending) (w' : World) : Prop :=
 e = .returned (.tuple #[]) ∧ ∃ B' X' nS' nW', BdAt w' X' R nS' nW' B' ∧ Fr X w w' X' ∧ Inv V (L ++ [l]) (fun _ => False) B' ∧ (B'.level = 0 ∧ B' = B.add (layD B.st l)) ∧ B'.cl.length ≤ B.cl.length + 1 ∧ nS' ≤ nS + 1 ∧ nW' ≤ nW + 2
theorem add_cl (B : Bd) (d : List Int) : (B.add d).cl.length ≤ B.cl.length + 1 := by
 unfold Bd.add
 split
 · simp
 · split
   · simp [Bd.put]
   · simp
theorem addB_any (w : World) (X : Nat → Prop) (R nS nW : Nat) (B : Bd) (hB : BdAt w X R nS nW B) (V : Int) (L : List (List Int)) (hI : Inv V L (fun _ => False) B) (h0 : B.level = 0) (hV : V ≤ 200000) (hcl : B.cl.length ≤ 800000) (hnS : nS ≤ 10000000000000) (hnW : nW ≤ 800000000000000000) (q : Option Addr) (cq : Nat) (l : List Int) (hl : l.length ≤ 200) (hx : ∀ x ∈ l, Num V x) (hA : IntsAt w q l) :
   Calls Tryz.prog 192 #[.pointer (some ⟨R, 0, none⟩), .slice q l.length cq] w (AdOut w X R nS nW V L B l) := by
 obtain ⟨S, W, vc, vs, wk, cg, cc, wv, hM⟩ := hB
 have hmain : Calls Tryz.prog 192 #[.pointer (some ⟨R, 0, none⟩), .slice q l.length cq] w (AddOut w X R S W nS nW B l) := by
   cases l with
   | nil => exact add0_any w X R S W nS nW vc vs wk cg cc wv B hM q cq
   | cons a l =>
     exact add1_any w X R S W nS nW vc vs wk cg cc wv B hM q cq (a :: l) hl (by simp) (fun x h => (hx x h).small hV) hA (by omega) (by have := hI.wf.spLen hV; omega) (by omega) (fun x => by have := hI.wf.wtLen x; omega) (by omega)
 refine hmain.mono ?_
 rintro e w' ⟨rfl, d, X', nS', nW', vc', vs', wk', cg', cc', wv', hLd, hdl, hM', hF, hn1, hn2⟩
 obtain ⟨hi, hl0⟩ := add_ok hI h0 hLd.1 (by omega) hx
 exact ⟨rfl, B.add d, X', nS', nW', ⟨S, W, vc', vs', wk', cg', cc', wv', hM'⟩, hF, hi, ⟨hl0, by rw [← hLd.2]⟩, add_cl B d, hn1, hn2⟩
theorem row_nil (w : World) (base : Nat) (e : TypeId) (sz : Nat) : w.ownsRow base e sz (.slice none 0 0) 0 [] := ⟨by simp, .inl ⟨rfl, rfl⟩⟩
theorem newMb {w : World} {R S W : Nat} (hb : w.heap[R]? = some (.cells #[.slice none 0 0, .slice none 0 0, .int .i64 0, .bool false, .int .i64 0, .map (some S), .map (some W), .int .i64 0] 208 (0, 0))) (hS : w.heap[S]? = some (.map #[] 0)) (hW : w.heap[W]? = some (.map #[] 0)) (hne : S ≠ W) :
   BdAt w (fun g => g = R ∨ g = S ∨ g = W) R 0 0 Bd.nil := by
 have lt : ∀ {g o}, w.heap[g]? = some o → g < w.heap.size := fun h => (Array.getElem?_eq_some_iff.1 h).1
 refine ⟨S, W, .slice none 0 0, .slice none 0 0, 0, fun _ => 0, fun _ => 0, fun _ => .slice none 0 0, hb, ⟨.map [], map_empty hS, soIs_zero⟩, ⟨.map [], map_empty hW, fun x => rfl⟩, row_nil _ _ _ _, row_nil _ _ _ _, fun i hi => by simp [Bd.nil] at hi, fun x => row_nil _ _ _ _, fun i j hi => by simp [Bd.nil] at hi, fun x y g hg => by simp [Value.ownBlock] at hg, hne, .inl rfl, .inr (.inl rfl), .inr (.inr rfl), fun g hg => by simp [Value.ownBlock] at hg, fun g hg => by simp [Value.ownBlock] at hg, fun i hi => by simp [Bd.nil] at hi, fun x g hg => by simp [Value.ownBlock] at hg, fun g hg => ?_⟩
 rcases hg with rfl | rfl | rfl
 · exact lt hb
 · exact lt hS
 · exact lt hW
def addAll (L : List (List Int)) : Bd := L.foldl (fun B l => B.add (layD B.st l)) Bd.nil
theorem addAll_snoc (L : List (List Int)) (l : List Int) : addAll (L ++ [l]) = (addAll L).add (layD (addAll L).st l) := by simp [addAll, List.foldl_append]
def NewOut (w : World) (V : Int) (L : List (List Int)) (e : Ending) (w' : World) : Prop :=
 ∃ R B X nS nW, e = .returned (.pointer (some ⟨R, 0, none⟩)) ∧ BdAt w' X R nS nW B ∧ Below w.heap.size w w' ∧ (∀ g, X g → w.heap.size ≤ g) ∧ Inv V L (fun _ => False) B ∧ (B.level = 0 ∧ ∃ g f, spreadN g (addAll L) = some (B, f)) ∧ (B.lost = false → B.spread = B.sp.length) ∧ B.cl.length ≤ L.length ∧ nS ≤ 1000000000 ∧ nW ≤ 1000000000000
set_option maxHeartbeats 4000000 in
theorem new_any (V : Int) (hV : V ≤ 200000) (vars : Int) (p : Option Addr) (cap : Nat) (rs : List Row) (hl : rs.length ≤ 800000) (hx : ∀ r ∈ rs, r.ns.length ≤ 200 ∧ ∀ x ∈ r.ns, Num V x) (w : World) (hC : ClAt w p rs) :
   Calls Tryz.prog 176 #[cval vars p rs.length cap] w (NewOut w V (rs.map (·.ns))) := by
 have HX := hide hx
 have HC := hide hC
 clear hx hC
 have h103 := run_mk103
 have h104 := run_mk104
 obtain ⟨n, hn⟩ : ∃ n, rs.length = n := ⟨_, rfl⟩
 rw [hn]
 have hB4 : Below w.heap.size w ((((w.alloc (.cells #[.int .i64 vars, .slice p n cap] 30)).alloc (.map #[] 0)).alloc (.map #[] 0)).alloc (.cells #[.slice none 0 0, .slice none 0 0, .int .i64 0, .bool false, .int .i64 0, .map (some (w.heap.size + 1)), .map (some (w.heap.size + 1 + 1)), .int .i64 0] 208)) := bal (bal (bal (bal (Below.refl _ _) _) _) _) _
 have hbd := newMb (w := (((w.alloc (.cells #[.int .i64 vars, .slice p n cap] 30)).alloc (.map #[] 0)).alloc (.map #[] 0)).alloc (.cells #[.slice none 0 0, .slice none 0 0, .int .i64 0, .bool false, .int .i64 0, .map (some (w.heap.size + 1)), .map (some (w.heap.size + 1 + 1)), .int .i64 0] 208)) (R := w.heap.size + 1 + 1 + 1) (S := w.heap.size + 1) (W := w.heap.size + 1 + 1)
   (by have := heap_new (((w.alloc (.cells #[.int .i64 vars, .slice p n cap] 30)).alloc (.map #[] 0)).alloc (.map #[] 0)) (.cells #[.slice none 0 0, .slice none 0 0, .int .i64 0, .bool false, .int .i64 0, .map (some (w.heap.size + 1)), .map (some (w.heap.size + 1 + 1)), .int .i64 0] 208); rwa [size_new, size_new, size_new] at this)
   (by rw [heap_old _ _ (by rw [size_new, size_new, size_new]; omega), heap_old _ _ (by rw [size_new, size_new]; omega)]; have := heap_new (w.alloc (.cells #[.int .i64 vars, .slice p n cap] 30)) (.map #[] 0); rwa [size_new] at this)
   (by rw [heap_old _ _ (by rw [size_new, size_new, size_new]; omega)]; have := heap_new ((w.alloc (.cells #[.int .i64 vars, .slice p n cap] 30)).alloc (.map #[] 0)) (.map #[] 0); rwa [size_new, size_new] at this) (by omega)
 have HN := hide hn
 have hn8 : n ≤ 800000 := by omega
 clear hn
 go_enter Tryz.func176, Tryz.ntmps176
 go_wp2_with fail
 have hXB : ∀ g, (g = w.heap.size + 1 + 1 + 1 ∨ g = w.heap.size + 1 ∨ g = w.heap.size + 1 + 1) → w.heap.size ≤ g := fun g hg => by omega
 generalize ((((w.alloc (.cells #[.int .i64 vars, .slice p n cap] 30)).alloc (.map #[] 0)).alloc (.map #[] 0)).alloc (.cells #[.slice none 0 0, .slice none 0 0, .int .i64 0, .bool false, .int .i64 0, .map (some (w.heap.size + 1)), .map (some (w.heap.size + 1 + 1)), .int .i64 0] 208)) = w4 at *
 generalize hX0 : (fun g => g = w.heap.size + 1 + 1 + 1 ∨ g = w.heap.size + 1 ∨ g = w.heap.size + 1 + 1) = X0 at *
 have HXB : Hid (∀ g, X0 g → w.heap.size ≤ g) := fun g hg => hXB g (by rw [← hX0] at hg; exact hg)
 have HB4 := hide hB4
 have HBD := hide hbd
 clear hB4 hbd hX0 hXB h103 h104
 generalize w.heap.size + 1 + 1 + 1 = R at *
 go_loopw [13] (fun t wr => ∃ k : Nat, k ≤ n ∧ t = .int .i64 k ∧ Hid (∃ B' X' nS' nW', BdAt wr X' R nS' nW' B' ∧ Fr X0 w4 wr X' ∧ Inv V ((rs.map (·.ns)).take k) (fun _ => False) B' ∧ (B'.level = 0 ∧ B' = addAll ((rs.map (·.ns)).take k)) ∧ B'.cl.length ≤ k ∧ nS' ≤ k ∧ nW' ≤ 2 * k)) (fun t _ => n - (intOf t).toNat)
 case atStart => exact ⟨0, Nat.zero_le _, rfl, Bd.nil, X0, 0, 0, HBD.out, Fr.refl _ _, by rw [List.take_zero]; exact nil_ok V, ⟨rfl, rfl⟩, Nat.le_refl _, Nat.le_refl _, Nat.le_refl _⟩
 case round =>
   obtain ⟨k, hk, rfl, HJ⟩ := hrel
   obtain ⟨B, X, nS, nW, hb, hF, hI, hlv, hcl, hnS, hnW⟩ := HJ.out
   have hbw : Below w.heap.size w wr := by
     have h1 := hF.below (base := w.heap.size) HB4.out.size HXB.out
     exact HB4.out.trans h1
   have hCr := HC.out.later hbw
   by_cases hlt : k < n
   · have hkr : k < rs.length := by have := HN.out; omega
     obtain ⟨b, off, hp, hrow⟩ := hCr.rows (by omega)
     subst hp
     have x0 := hrow k hkr
     have hin := hCr.inn rs[k] (List.getElem_mem hkr)
     obtain ⟨hr1, hr2⟩ := HX.out rs[k] (List.getElem_mem hkr)
     have HAD := hide (addB_any wr X R nS nW B hb V _ hI hlv.1 hV (by omega) (by omega) (by omega) rs[k].at' rs[k].cap rs[k].ns hr1 hr2 hin)
     have htk : (rs.map (·.ns)).take k ++ [rs[k].ns] = (rs.map (·.ns)).take (k + 1) := by
       rw [List.take_succ_eq_append_getElem (by simpa using hkr)]
       simp
     have HTK := hide htk
     have HLV := hide hlv.2
     unfold Row.v at x0
     have hlti : (k : Int) < (n : Int) := by omega
     have HN2 := hide (And.intro hcl (And.intro hnS hnW))
     have HF := hide hF
     clear hrow hin hr1 hr2 htk hb hF hI hlv hcl hnS hnW hCr HJ hbw
     generalize rs[k].ns = ns at *
     generalize rs[k].at' = q at *
     generalize rs[k].cap = c2 at *
     clear hkr
     generalize hm : ns.length = m at *
     go_wp2_with fail
     refine HAD.out.mono ?_
     rintro e w5 ⟨rfl, B5, X5, nS5, nW5, hb5, hF5, hI5, hlv5, hcl5, hnS5, hnW5⟩
     rw [HTK.out] at hI5
     have HJ5 : Hid (∃ B' X' nS' nW', BdAt w5 X' R nS' nW' B' ∧ Fr X0 w4 w5 X' ∧ Inv V ((rs.map (·.ns)).take (k + 1)) (fun _ => False) B' ∧ (B'.level = 0 ∧ B' = addAll ((rs.map (·.ns)).take (k + 1))) ∧ B'.cl.length ≤ k + 1 ∧ nS' ≤ k + 1 ∧ nW' ≤ 2 * (k + 1)) :=
       ⟨B5, X5, nS5, nW5, hb5, HF.out.trans hF5, hI5, ⟨hlv5.1, by rw [← HTK.out, addAll_snoc, ← HLV.out]; exact hlv5.2⟩, by have := HN2.out; omega, by have := HN2.out; omega, by have := HN2.out; omega⟩
     clear hb5 hF5 hI5 hlv5 hcl5 hnS5 hnW5 HAD HTK
     go_wp2_with fail
     go_roundw
     case rel => exact ⟨k + 1, by omega, by go_num, HJ5.out⟩
     case measure => simp [intOf]; omega
   · have hlti : ¬ (k : Int) < (n : Int) := by omega
     have htk : (rs.map (·.ns)).take k = rs.map (·.ns) := List.take_of_length_le (by rw [List.length_map, HN.out]; omega)
     rw [htk] at hI hlv
     have HSP := hide (spread_any wr X R nS nW B hb V _ (fun _ => False) hI hV (by omega) (by omega) (by omega))
     have HF := hide hF
     have HQ := hide (And.intro hlv (And.intro hcl (And.intro hnS hnW)))
     have HSL := hide (hI.wf.spLen hV)
     have HBW := hide hbw
     clear hb hF hI hlv hcl hnS hnW hCr HJ htk hbw
     go_wp2_with fail
     refine HSP.out.mono ?_
     rintro e w5 ⟨f, B5, X5, nS5, nW5, rfl, hb5, hF5, hnS5, hnW5, hsl5, hsp5⟩
     have HE : Hid (NewOut w V (rs.map (·.ns)) (.returned (.pointer (some ⟨R, 0, none⟩))) w5) := by
       have hF6 := HF.out.trans hF5
       have h1 := hF6.below (base := w.heap.size) HB4.out.size HXB.out
       refine ⟨R, B5, X5, nS5, nW5, rfl, hb5, HB4.out.trans h1, fun g hg => ?_, ?_, ⟨hsp5.level.trans HQ.out.1.1, by
         obtain ⟨g, hg⟩ := hsp5.ex
         rw [HQ.out.1.2] at hg
         exact ⟨g, f, hg⟩⟩, ?_, ?_, ?_, ?_⟩
       · by_cases hgs : g < w4.heap.size
         · exact HXB.out g (hF6.fro g hgs hg)
         · have := HB4.out.size; omega
       · by_cases hf : f = -1
         · exact (hsp5.ok hf).1
         · exact ((hsp5.bad hf).2.2 HQ.out.1.1).1
       · intro e0
         by_cases hf : f = -1
         · exact (hsp5.ok hf).2.1
         · rw [((hsp5.bad hf).2.2 HQ.out.1.1).2] at e0; cases e0
       · rw [hsp5.cl, List.length_map]; have := HQ.out.2.1; have := HN.out; omega
       · have := HQ.out.2.2.1; omega
       · have := HQ.out.2.2.2; omega
     clear hb5 hF5 hnS5 hnW5 hsl5 hsp5 HSP
     go_wp2_with fail
     go_ret
     exact HE.out
end Go.Proofs.YtjhkecnnhddhbaaGreatDoor.Pf
