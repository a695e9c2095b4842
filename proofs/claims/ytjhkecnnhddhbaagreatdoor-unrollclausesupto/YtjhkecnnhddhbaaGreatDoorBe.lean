/- Which node is whose: partners. -/
import Derived.Test.YtjhkecnnhddhbaaGreatDoorMj
namespace Go.Proofs.YtjhkecnnhddhbaaGreatDoor.Ev
open Go.RowKit Go.Maps
set_option maxRecDepth 100000
set_option maxRecDepth 100000

/-- The node of the last pair of a state; 0: there is none. -/
def lastV (l : List (Int × Int)) (x : Int) : Int := l.foldl (fun a p => if p.1 = x then p.2 else a) 0
theorem lastV_snoc (l : List (Int × Int)) (p : Int × Int) (x : Int) : lastV (l ++ [p]) x = if p.1 = x then p.2 else lastV l x := by simp [lastV, List.foldl_append]
theorem run_makeMap92 (n : Nat) (w : World) : (Instr.makeMap 127 (some (.int .i64 (n : Int)))).run Tryz.prog w = .ok (.map (some w.heap.size)) (w.alloc (.map #[] 0)) := by
  simp [Instr.makeMap]; rfl

/-- What a map of partners holds. -/
structure PartIs (l : List (Int × Int)) (D : DataW Unit) : Prop where
  has : ∀ x : Int, Maps.has D (.int .i64 x) = (fsts l).contains x
  at' : ∀ x : Int, D.atKey (.int .i64 x) (.lit (.int .i64 0)) = .lit (.int .i64 (lastV l x))
theorem partIs_zero : PartIs [] (.map []) := ⟨fun _ => rfl, fun _ => rfl⟩
theorem PartIs.step {l : List (Int × Int)} {D : DataW Unit} (h : PartIs l D) (hm : IsMap D) (s y : Int) : PartIs (l ++ [(s, y)]) (D.put (.int .i64 s) (.lit (.int .i64 y))) := by
  refine ⟨fun x => ?_, fun x => ?_⟩
  · by_cases e : x = s
    · subst e
      rw [has_put_same hm (k := .int .i64 x) trivial]
      simp [fsts]
    · rw [has_put_other (by simpa using e), h.has x]
      simp [fsts, e]
  · rw [lastV_snoc]
    by_cases e : x = s
    · subst e
      rw [atKey_put_same hm (k := .int .i64 x) trivial, if_pos rfl]
    · rw [atKey_put_other (by simpa using e), h.at' x, if_neg (fun q => e q.symm)]

set_option maxHeartbeats 2000000 in
theorem partners_any (p : Option Addr) (cap : Nat) (l : List (Int × Int)) (hl : l.length ≤ 8796093022208) (hs : ∀ (i : Nat) (h : i < l.length), 0 ≤ l[i].1 ∧ l[i].1 < 80 ∧ 0 ≤ l[i].2 ∧ l[i].2 < 80) (w : World) (hP : PairsAt w p l) :
    Calls Tryz.prog 91 #[.slice p l.length cap] w fun e w' => ∃ (M : Nat) (D : DataW Unit), e = .returned (.map (some M)) ∧ w.heap.size ≤ M ∧ w'.ownsMap Tryz.prog 3 (plainElem Tryz.prog 3) M l.length D ∧ PartIs l D ∧ Below w.heap.size w w' := by
  have hmm := run_makeMap92
  have HS := hide hs
  have HP := hide hP
  clear hs hP
  go_enter Tryz.func91, Tryz.ntmps91
  go_wp2
  go_loopw [11] (fun i wr => ∃ k : Nat, k ≤ l.length ∧ i = .int .i64 k ∧ Below w.heap.size w wr ∧ ∃ D : DataW Unit, wr.ownsMap Tryz.prog 3 (plainElem Tryz.prog 3) w.heap.size k D ∧ Hid (PartIs (l.take k) D)) (fun i _ => l.length - (intOf i).toNat)
  case atStart => exact ⟨0, Nat.zero_le _, rfl, bal (Below.refl _ _) _, .map [], World.ownsMap_made _ _ _ _, partIs_zero⟩
  case round =>
    obtain ⟨k, hk, rfl, hbw, D, hown, hD⟩ := hrel
    by_cases hlt : k < l.length
    · obtain ⟨b, off, rfl, hc⟩ := (HP.out.later hbw) (by omega)
      obtain ⟨c0, c1⟩ := hc k hlt
      have hsk := HS.out k hlt
      have hki : (k : Int) < (l.length : Int) := by omega
      have HST : Hid (PartIs (l.take (k + 1)) (D.put (.int .i64 l[k].1) (.lit (.int .i64 l[k].2)))) := by
        rw [List.take_succ_eq_append_getElem hlt]
        exact hD.out.step hown.isMap _ _
      clear hc hD
      generalize l[k] = pr at *
      obtain ⟨s, y⟩ := pr
      simp only at *
      have hkey : keyOf Tryz.prog 3 (.int .i64 s) = some (.int .i64 s) := keyOf_int_mk Tryz.underlying3 (WalkArith.wf_i64 (by omega))
      have hlw := hown.lt
      go_wp2_with (at_mapUpdate; refine wpList_mapUpdate_own _ rfl _ _ _ 127 rfl 3 3 law3 Tryz.underlying127 _ w.heap.size k _ rfl (hown.alloc _) (by unfold maxLen; omega) _ _ _ rfl rfl hkey _ [] (plainElem_int Tryz.underlying3 (WalkArith.wf_i64 (by omega))) ?_; intro w1 hown1 hgrow1)
      have HO1 := hide hown1
      have hbn : Below w.heap.size w w1 := (bal hbw _).grown hgrow1 (by simp; omega) (fun j hj => by cases hj; exact Nat.le_refl _)
      clear hown1 hgrow1 hown hbw
      go_roundw
      case rel => exact ⟨k + 1, by omega, by go_num, hbn, _, HO1.out, HST⟩
      case measure => simp [intOf]; omega
    · obtain rfl : k = l.length := by omega
      rw [List.take_length] at hD
      go_wp2
      go_ret
      exact ⟨w.heap.size, D, rfl, Nat.le_refl _, hown, hD.out, hbw⟩

end Go.Proofs.YtjhkecnnhddhbaaGreatDoor.Ev
