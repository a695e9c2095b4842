/- A searcher: is it spent; its values. -/
import Derived.Test.YtjhkecnnhddhbaaGreatDoorLb
namespace Go.Proofs.YtjhkecnnhddhbaaGreatDoor.Sr
open Go.RowKit Go.Maps Go.Proofs.YtjhkecnnhddhbaaGreatDoor.Pf
set_option maxRecDepth 100000
set_option autoImplicit false

theorem variableOf_any (x : Int) (h1 : -1000000 ≤ x) (h2 : x ≤ 1000000) (w : World) : Calls Tryz.prog 198 #[.int .i64 x] w fun e w' => e = .returned (.int .i64 (x.natAbs : Int)) ∧ w' = w := by
  have w1 := wrap_in (-x) (by omega) (by omega)
  have he : (x.natAbs : Int) = max x (-x) := by omega
  rw [he]
  go_enter Tryz.func198, Tryz.ntmps198
  go_wp2
  go_ret
  exact ⟨rfl, rfl⟩
theorem spentV (s V : Nat) (hV : V ≤ 14) (w : World) (s2 : w.cell? ⟨s, 2, none⟩ = some (.int .i64 V)) : Calls Tryz.prog 179 #[.pointer (some ⟨s, 0, none⟩)] w fun e w' => e = .returned (.bool false) ∧ Below w.heap.size w w' := by
  have hd : decide ((14 : Int) < (V : Int)) = false := by simp; omega
  go_enter Tryz.func179, Tryz.ntmps179
  go_wp2_with fail
  go_quiet (fail)
  go_wp2
  go_ret
  exact ⟨rfl, ⟨rfl, rfl, rfl, Nat.le_refl _, fun _ _ => rfl⟩⟩
/-- Of few variables it is not counted. -/
theorem isSpent_few {base : Nat} {w : World} {s : Nat} {XB XQ : Nat → Prop} {R nS nW q gp gw gm gl : Nat} {vh vl vp : Value} {S : Sx} (h : Ser base w s XB XQ R nS nW q gp gw gm gl vh vl vp S) (hV : S.V ≤ 14) :
    Calls Tryz.prog 179 #[.pointer (some ⟨s, 0, none⟩)] w fun e w' => e = .returned (.bool false) ∧ Below w.heap.size w w' := spentV s S.V hV w h.s2
theorem make_bools0 (N : Nat) (h2 : N ≤ 1000000) (w : World) : (Instr.makeSlice 88 (.int .i64 (N : Int)) (.int .i64 (N : Int))).run Tryz.prog w = .ok (.slice (some ⟨w.heap.size, 0, none⟩) N N) (w.alloc (.cells ((List.replicate N false).map Value.bool).toArray 4)) := by
  obtain ⟨i0, hi, hz0, hz1, hz2⟩ := info_parts info4
  have h := run_makeSlice (P := Tryz.prog) w 88 4 i0 (.bool false) Tryz.underlying88 hi hz0 .i64 .i64 (N : Int) (N : Int) (by omega) (by omega) (by rw [hz1]; simp; omega) (by rw [hz2]; omega) (by omega)
  rw [hz1, Nat.mul_one, Int.toNat_natCast] at h
  rw [h]
  congr 3
  apply Array.toList_inj.1
  rw [show (Value.cells (.bool false)) = #[.bool false] from rfl, toList_madeCells_one]
  simp
/-- The values of the first k variables, and no more. -/
def valN (B : Bd) (V k : Nat) : List Bool := (List.range V).map fun i => decide (i < k) && decide (((i + 1 : Nat) : Int) ∈ B.st)
theorem valN_zero (B : Bd) (V : Nat) : valN B V 0 = List.replicate V false := by
  apply List.ext_getElem
  · simp [valN]
  · intro i h1 h2
    simp [valN]
theorem valN_succ (B : Bd) (V k : Nat) : (valN B V k).set k (decide (((k + 1 : Nat) : Int) ∈ B.st)) = valN B V (k + 1) := by
  apply List.ext_getElem
  · simp [valN]
  · intro i h1 h2
    rw [List.getElem_set]
    simp only [valN, List.getElem_map, List.getElem_range]
    by_cases e : k = i
    · subst e
      simp
    · rw [if_neg e]
      have : decide (i < k) = decide (i < k + 1) := by simp; omega
      rw [this]
theorem map_setB (l : List Bool) (i : Nat) (x : Bool) : ((l.map Value.bool).toArray).setIfInBounds i (.bool x) = ((l.set i x).map Value.bool).toArray := by
  rw [List.setIfInBounds_toArray, List.map_set]
/-- What values leaves. -/
def VaOut (w : World) (V : Nat) (B : Bd) (e : Ending) (w' : World) : Prop := ∃ g, e = .returned (.slice (some ⟨g, 0, none⟩) V V) ∧ w'.heap[g]? = some (.cells ((valN B V V).map Value.bool).toArray 4 (0, 0)) ∧ w.heap.size ≤ g ∧ Below w.heap.size w w'
set_option maxHeartbeats 4000000 in
theorem values_s (base : Nat) (w : World) (s : Nat) (XB XQ : Nat → Prop) (R nS nW q gp gw gm gl : Nat) (vh vl vp : Value) (S : Sx) (h : Ser base w s XB XQ R nS nW q gp gw gm gl vh vl vp S) (hV : S.V ≤ 100000) :
    Calls Tryz.prog 182 #[.pointer (some ⟨s, 0, none⟩)] w (VaOut w S.V S.B) := by
  have HS := hide h
  have s2 := h.s2
  have hmk := make_bools0 S.V (by omega)
  have hbA : Below w.heap.size w (w.alloc (.cells ((List.replicate S.V false).map Value.bool).toArray 4)) := bal (Below.refl _ _) _
  have HJ0 : Hid ((w.alloc (.cells ((List.replicate S.V false).map Value.bool).toArray 4)).heap[w.heap.size]? = some (.cells ((valN S.B S.V 0).map Value.bool).toArray 4 (0, 0)) ∧ Below w.heap.size w (w.alloc (.cells ((List.replicate S.V false).map Value.bool).toArray 4))) := ⟨by rw [valN_zero]; exact heap_alloc_new w _, hbA⟩
  clear h hbA
  go_enter Tryz.func182, Tryz.ntmps182
  go_wp2_with fail
  have e0 : ((List.replicate S.V false).map Value.bool).toArray = Array.replicate S.V (Value.bool false) := by simp
  rw [e0] at HJ0
  generalize w.alloc (.cells (Array.replicate S.V (Value.bool false)) 4) = wa at *
  go_loopw [13] (fun t wr => ∃ k : Nat, k ≤ S.V ∧ t = .int .i64 k ∧ Hid (wr.heap[w.heap.size]? = some (.cells ((valN S.B S.V k).map Value.bool).toArray 4 (0, 0)) ∧ Below w.heap.size w wr)) (fun t _ => S.V - (intOf t).toNat)
  case atStart => exact ⟨0, Nat.zero_le _, rfl, HJ0.out.1, HJ0.out.2⟩
  case round =>
    obtain ⟨k, hk, rfl, HJ⟩ := hrel
    by_cases hlt : k < S.V
    · have hlti : (k : Int) < (S.V : Int) := by omega
      have e7 : (0 : Int) ≤ (k : Int) := by omega
      have w1 := wrap_in ((k : Int) + 1) (by omega) (by omega)
      have HSR := hide (HS.out.later HJ.out.2)
      have s0 := HSR.out.s0
      have HIS := hide (isSoB HSR.out.bd ((k : Int) + 1) ⟨by omega, by omega⟩)
      have hcv : wr.cell? ⟨w.heap.size, k, none⟩ = some (.bool ((valN S.B S.V k).getD k false)) := by
        rw [Lib.cell_of_heap HJ.out.1, List.getElem?_toArray, List.getElem?_map, List.getElem?_eq_getElem (by simp [valN]; exact hlt), List.getD_eq_getElem?_getD, List.getElem?_eq_getElem (by simp [valN]; exact hlt)]
        rfl
      have fcv : wr.frozen? ⟨w.heap.size, k, none⟩ = false := Lib.frozen_of_heap HJ.out.1 k
      have HNX : Hid ((wr.setCell ⟨w.heap.size, k, none⟩ (.bool (decide ((k : Int) + 1 ∈ S.B.st)))).heap[w.heap.size]? = some (.cells ((valN S.B S.V (k + 1)).map Value.bool).toArray 4 (0, 0)) ∧ Below w.heap.size w (wr.setCell ⟨w.heap.size, k, none⟩ (.bool (decide ((k : Int) + 1 ∈ S.B.st))))) := by
        refine ⟨?_, HJ.out.2.setCell (Nat.le_refl _) _⟩
        rw [heap_setCell_same _ _ _ _ _ _ HJ.out.1, map_setB, ← valN_succ S.B S.V k]
        rfl
      generalize (valN S.B S.V k).getD k false = yb at *
      generalize decide ((k : Int) + 1 ∈ S.B.st) = db at *
      go_wp2_with fail
      refine HIS.out.mono ?_
      rintro e wc ⟨rfl, rfl⟩
      go_wp2
      go_roundw
      case rel => exact ⟨k + 1, hlt, by go_num, HNX⟩
      case measure => simp [intOf]; omega
    · have hlti : ¬ (k : Int) < (S.V : Int) := by omega
      have HK : Hid (k = S.V) := by unfold Hid; omega
      clear hlt
      go_wp2
      go_ret
      exact ⟨_, rfl, by have := HJ.out.1; rw [HK.out] at this; exact this, Nat.le_refl _, HJ.out.2⟩
end Go.Proofs.YtjhkecnnhddhbaaGreatDoor.Sr
