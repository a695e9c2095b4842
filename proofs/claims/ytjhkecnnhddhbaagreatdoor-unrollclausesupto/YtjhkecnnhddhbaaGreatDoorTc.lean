/- The plain texts of steps: what must hold. -/
import Derived.Test.YtjhkecnnhddhbaaGreatDoorTb
namespace Go.Proofs.YtjhkecnnhddhbaaGreatDoor
open Go.RowKit Go.Maps Go.WideMaps
set_option maxRecDepth 100000
set_option autoImplicit false

/-- The clauses that a literal holds, so many variables on. -/
def mustP (x off : Int) : List (List Int) := if x = 1 then [] else if x = 0 then [[]] else [[numP x off]]
/-- New rows, given back. -/
def NewRows (w : World) (L : List (List Int)) (e : Ending) (w' : World) : Prop :=
  ∃ (p : Option Addr) (cap : Nat) (rs : List Row), e = .returned (.slice p rs.length cap) ∧ rs.map Row.ns = L ∧ RowsAt w' p rs ∧ InAt w' rs ∧
    (∀ r ∈ rs, ∀ a, r.at' = some a → w.heap.size ≤ a.block ∧ a.block < w'.heap.size) ∧ (∀ a, p = some a → w.heap.size ≤ a.block ∧ a.block < w'.heap.size) ∧ Below w.heap.size w w'
theorem newRows_nil (w : World) : NewRows w [] (.returned (.slice none 0 0)) w :=
  ⟨none, 0, [], rfl, rfl, fun h => by simp at h, fun _ h => (by cases h), fun _ h => (by cases h), fun _ h => (by cases h), Below.refl _ _⟩
theorem newRows_void (w : World) (ty : TypeId) : NewRows w [[]] (.returned (.slice (some ⟨w.heap.size, 0, none⟩) 1 1)) (w.alloc (.cells #[.slice none 0 0] ty)) := by
  refine ⟨_, _, [⟨none, [], 0⟩], rfl, rfl, fun _ => ⟨_, _, rfl, fun i hi => ?_⟩, fun r h => ?_, fun r h a ha => ?_, fun a ha => ?_, bal (Below.refl _ _) _⟩
  · match i, hi with
    | 0, _ => simp [go_sem, Row.v]
  · simp at h; subst h; exact fun h => by simp at h
  · simp at h; subst h; cases ha
  · cases ha; simp
theorem newRows_one (w : World) (x : Int) (t1 t2 : TypeId) :
    NewRows w [[x]] (.returned (.slice (some ⟨w.heap.size + 1, 0, none⟩) 1 1)) ((w.alloc (.cells #[.int .i64 x] t1)).alloc (.cells #[.slice (some ⟨w.heap.size, 0, none⟩) 1 1] t2)) := by
  refine ⟨_, _, [⟨some ⟨w.heap.size, 0, none⟩, [x], 1⟩], rfl, rfl, fun _ => ⟨_, _, rfl, fun i hi => ?_⟩, fun r h => ?_, fun r h a ha => ?_, fun a ha => ?_, bal (bal (Below.refl _ _) _) _⟩
  · match i, hi with
    | 0, _ => simp [go_sem, Row.v]
  · simp at h; subst h
    refine fun _ => ⟨_, _, rfl, fun i hi => ?_⟩
    match i, hi with
    | 0, _ => simp [go_sem]
  · simp at h; subst h; cases ha; simp; omega
  · cases ha; simp

set_option maxHeartbeats 2000000 in
theorem mustP_any (x off : Int) (h : 0 ≤ x) (h2 : x ≤ 10000000) (h3 : 0 ≤ off) (h4 : off ≤ 10000000) (w : World) :
    Calls Tryz.prog 27 #[.int .i64 x, .int .i64 off] w (NewRows w (mustP x off)) := by
  have HN := hide (numP_any x off h h2 h3 h4)
  have HE : Hid (mustP x off = if x = 1 then [] else if x = 0 then [[]] else [[numP x off]]) := rfl
  generalize mustP x off = R at *
  by_cases h1 : x = 1
  · have HX : Hid (R = []) := by unfold Hid; rw [HE.out, if_pos h1]
    subst h1
    clear HN HE
    go_enter Tryz.func27, Tryz.ntmps27
    go_wp2
    go_ret
    rw [HX.out]
    exact newRows_nil w
  · by_cases h0 : x = 0
    · have HX : Hid (R = [[]]) := by unfold Hid; rw [HE.out, if_neg h1, if_pos h0]
      subst h0
      clear HN HE
      go_enter Tryz.func27, Tryz.ntmps27
      go_wp2
      go_ret
      rw [HX.out]
      exact newRows_void w _
    · have HX : Hid (R = [[numP x off]]) := by unfold Hid; rw [HE.out, if_neg h1, if_neg h0]
      have hb1 : (x == 1) = false := by simpa using h1
      have hb0 : (x == 0) = false := by simpa using h0
      clear HE h1 h0
      generalize numP x off = y at *
      go_enter Tryz.func27, Tryz.ntmps27
      go_wp2_with fail
      refine (HN.out _).mono ?_
      rintro e w1 ⟨rfl, hw1⟩
      obtain rfl : w = w1 := hw1.symm
      clear hw1 HN
      go_wp2
      go_ret
      rw [HX.out]
      exact newRows_one w y _ _
end Go.Proofs.YtjhkecnnhddhbaaGreatDoor
