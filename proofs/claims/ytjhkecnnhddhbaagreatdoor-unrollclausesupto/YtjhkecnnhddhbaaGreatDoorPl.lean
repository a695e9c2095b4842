/- A board: a clause is added, the walk. -/
import Derived.Test.YtjhkecnnhddhbaaGreatDoorPk
namespace Go.Proofs.YtjhkecnnhddhbaaGreatDoor.Pf
open Go.RowKit Go.Maps Go.WideMaps
set_option maxRecDepth 100000
set_option autoImplicit false

theorem sortC_nil : sortC [] = [] := by unfold sortC; rw [List.mergeSort_nil]; rfl
/-- How a clause comes to lie. -/
def layD (st : List Int) (l : List Int) : List Int := pullI (untilE st) 1 (pullI (untilE st) 0 (sortC l) (sortC l).length) (sortC l).length
/-- What Add leaves. -/
def AddOut (w : World) (X : Nat → Prop) (R S W nS nW : Nat) (B : Bd) (l : List Int) (e : Ending) (w' : World) : Prop :=
  e = .returned (.tuple #[]) ∧ ∃ d X' nS' nW' vc' vs' wk' cg' cc' wv', (Laid B l d ∧ d = layD B.st l) ∧ d.length ≤ l.length ∧ Mb w' X' R S W nS' nW' vc' vs' wk' cg' cc' wv' (B.add d) ∧ Fr X w w' X' ∧ nS' ≤ nS + 1 ∧ nW' ≤ nW + 2
theorem Mb.lose {w : World} {X : Nat → Prop} {R S W nS nW : Nat} {vc vs : Value} {wk : Int} {cg cc : Nat → Nat} {wv : Int → Value} {B : Bd} (h : Mb w X R S W nS nW vc vs wk cg cc wv B) : Mb (w.setCell ⟨R, 3, none⟩ (.bool true)) X R S W nS nW vc vs wk cg cc wv { B with lost := true } :=
  h.board ((Below.refl 0 w).setCell (Nat.zero_le _) _).size (fun g hg => Below.heap_setCell _ _ _ _ hg) B.level true B.spread wk (by rw [heap_setCell_same _ _ _ _ _ _ h.bd]; rfl)
set_option maxHeartbeats 1000000 in
theorem add0_any (w : World) (X : Nat → Prop) (R S W nS nW : Nat) (vc vs : Value) (wk : Int) (cg cc : Nat → Nat) (wv : Int → Value) (B : Bd) (h : Mb w X R S W nS nW vc vs wk cg cc wv B) (q : Option Addr) (cq : Nat) :
    Calls Tryz.prog 192 #[.pointer (some ⟨R, 0, none⟩), .slice q 0 cq] w (AddOut w X R S W nS nW B []) := by
  have HCL := hide (cloneI_any q cq [] (by simp) w (fun h => by simp at h))
  have H := hide h
  clear h
  go_enter Tryz.func192, Tryz.ntmps192
  go_wp2_with fail
  refine HCL.out.mono ?_
  rintro e w1 ⟨v, rfl, ho, hb1⟩
  obtain ⟨pv, cv, rfl, _⟩ := owns_ints ho
  have H1 := hide (H.out.later hb1)
  have HF1 : Hid (Fr X w w1 X) := Fr.quiet hb1
  clear ho hb1 HCL
  simp only [List.length_nil]
  go_wp2_with fail
  refine (Tryz.slices_Sort_int_none pv cv w1).mono ?_
  rintro e w2 ⟨rfl, hw2⟩
  obtain rfl : w1 = w2 := hw2.symm
  go_wp2_with fail
  refine (Tryz.slices_Compact_int_empty pv cv w1).mono ?_
  rintro e w2 ⟨rfl, hw2⟩
  obtain rfl : w1 = w2 := hw2.symm
  go_wp2_with fail
  refine (pull0_any w1 R pv cv 0 (by omega)).mono ?_
  rintro e w2 ⟨rfl, hb2⟩
  have H2 := hide (H1.out.later hb2)
  have HF2 : Hid (Fr X w w2 X) := HF1.out.trans (Fr.quiet hb2)
  clear hb2
  go_wp2_with fail
  refine (pull0_any w2 R pv cv 1 (by omega)).mono ?_
  rintro e w3 ⟨rfl, hb3⟩
  have H3 := hide (H2.out.later hb3)
  have HF3 : Hid (Fr X w w3 X) := HF2.out.trans (Fr.quiet hb3)
  have c3 := H3.out.c3
  have f3 := H3.out.fz 3
  have HM := hide H3.out.lose
  have HF : Hid (Fr X w (w3.setCell ⟨R, 3, none⟩ (.bool true)) X) := HF3.out.trans (Fr.set (q := ⟨R, 3, none⟩) H3.out.xr _)
  clear hb3
  go_wp2_with fail
  go_end0
  refine ⟨rfl, [], X, nS, nW, vc, vs, wk, cg, cc, wv, ⟨⟨fun x => Iff.rfl, by simp, fun a r e => by simp at e, fun a b r e => by simp at e⟩, by
    unfold layD
    rw [sortC_nil]
    rfl⟩, Nat.le_refl _, ?_, HF.out, by omega, by omega⟩
  unfold Bd.add
  rw [if_pos (.inl rfl)]
  exact HM.out
end Go.Proofs.YtjhkecnnhddhbaaGreatDoor.Pf
