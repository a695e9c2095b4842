/- A trace's numbers: is one too far? -/
import Derived.Test.YtagaemlgompggaaGreatDoorHj
namespace Go.Proofs.YtagaemlgompggaaGreatDoor
open Go.RowKit
set_option maxRecDepth 100000

theorem ret_int {k : IntKind} {a b : Int} (h : a = b) : Ending.returned (.int k a) = .returned (.int k b) := by rw [h]
theorem ret_bool {a b : Bool} (h : a = b) : Ending.returned (.bool a) = .returned (.bool b) := by rw [h]
def farB (n : Int) : Bool := decide (n < 0) || decide (255 < n)
theorem farB_true {n : Int} : farB n = true ↔ n < 0 ∨ 255 < n := by simp [farB]

set_option maxHeartbeats 400000 in
theorem fit2_any (n : Int) (w : World) : Calls Tryz.prog 28 #[.int .i64 n] w fun e w' => e = .returned (.bool (farB n)) ∧ w' = w := by
  go_enter Tryz.func28, Tryz.ntmps28
  go_wp2
  all_goals
    go_ret
    exact ⟨ret_bool (by rw [Bool.eq_iff_iff, farB_true]; simp; try omega), rfl⟩

def btw (n lo hi : Int) : Bool := decide (lo ≤ n) && decide (n ≤ hi)
theorem btw_true {n lo hi : Int} : btw n lo hi = true ↔ lo ≤ n ∧ n ≤ hi := by simp [btw]
set_option maxHeartbeats 400000 in
theorem between_any (x lo hi : Int) (w : World) :
    Calls Tryz.prog 14 #[.int .i64 x, .int .i64 lo, .int .i64 hi] w fun e w' => e = .returned (.bool (btw x lo hi)) ∧ w' = w := by
  go_enter Tryz.func14, Tryz.ntmps14
  go_wp2
  all_goals
    go_ret
    exact ⟨ret_bool (by rw [Bool.eq_iff_iff, btw_true]; simp; try omega), rfl⟩
theorem btw_far (n : Int) : btw n 0 255 = !farB n := by
  rw [Bool.eq_iff_iff, btw_true]
  simp [farB]

/-- The place of the first of which f says yes; -1: there is none. -/
def findE {α : Type} (f : α → Bool) (l : List α) : Int := match l.findIdx? f with | some i => (i : Int) | none => -1
theorem findE_ge {α : Type} (f : α → Bool) (l : List α) : decide (0 ≤ findE f l) = l.any f := by
  unfold findE
  cases h : l.findIdx? f with
  | none =>
    rw [List.findIdx?_eq_none_iff] at h
    have : l.any f = false := by rw [List.any_eq_false]; intro x hx; simp [h x hx]
    rw [this]; rfl
  | some i =>
    have : l.any f = true := by
      rw [List.any_eq_true]
      rw [List.findIdx?_eq_some_iff_getElem] at h
      obtain ⟨h1, h2, _⟩ := h
      exact ⟨l[i], List.getElem_mem h1, h2⟩
    rw [this]
    simp
theorem findE_hit {α : Type} (f : α → Bool) (l : List α) (k : Nat) (hk : k < l.length) (h : ∀ i (hi : i < l.length), i < k → f l[i] = false) (hf : f l[k] = true) : findE f l = k := by
  have : l.findIdx? f = some k := by
    rw [List.findIdx?_eq_some_iff_getElem]
    exact ⟨hk, hf, fun j hj => by simp [h j (by omega) hj]⟩
  unfold findE
  rw [this]
theorem findE_miss {α : Type} (f : α → Bool) (l : List α) (h : ∀ i (hi : i < l.length), f l[i] = false) : findE f l = -1 := by
  have : l.findIdx? f = none := by
    rw [List.findIdx?_eq_none_iff]
    intro x hx
    obtain ⟨i, hi, rfl⟩ := List.getElem_of_mem hx
    exact h i hi
  unfold findE
  rw [this]

set_option maxRecDepth 100000 in
set_option maxHeartbeats 2000000 in
theorem indexFar_any (l : List Int) (p : Option Addr) (cap : Nat) (w : World) (hl : l.length ≤ 9223372036854775807) (hI : IntsAt w p l) :
    Calls Tryz.prog 38 #[.slice p l.length cap, .func (.func 28) #[] #[]] w fun e w' => e = .returned (.int .i64 (findE farB l)) ∧ w' = w := by
  have HI := hide hI
  clear hI
  go_enter Tryz.func38, Tryz.ntmps38
  go_wp2
  go_loopw [8] (fun i wr => ∃ k : Nat, k ≤ l.length ∧ i = .int .i64 k ∧ Hid (∀ i (hi : i < l.length), i < k → farB l[i] = false) ∧ wr = w) (fun i _ => l.length - (intOf i).toNat)
  case atStart => exact ⟨0, Nat.zero_le _, rfl, fun i hi h => by omega, rfl⟩
  case round =>
    obtain ⟨k, hk, rfl, hno, rfl⟩ := hrel
    by_cases hlt : k < l.length
    · obtain ⟨b, off, rfl, hc⟩ := HI.out (by omega)
      have hck := hc k hlt
      have HH := hide (findE_hit farB l k hlt hno.out)
      clear hc
      cases hf : farB l[k]
      · have HN : Hid (∀ i (hi : i < l.length), i < k + 1 → farB l[i] = false) := by
          intro i hi h
          rcases Nat.lt_succ_iff_lt_or_eq.1 h with h1 | rfl
          · exact hno.out i hi h1
          · exact hf
        generalize l[k] = x at *
        have HF := hide hf
        clear hf hno HH
        go_wp2_with fail
        refine (fit2_any x _).mono ?_
        rintro e w' ⟨rfl, rfl⟩
        rw [HF.out]
        go_wp2
        go_roundw
        case rel => exact ⟨k + 1, by omega, by go_num, HN, trivial⟩
        case measure => simp [intOf]; omega
      · have HV := hide (HH.out hf)
        generalize l[k] = x at *
        have HF := hide hf
        clear hf hno HH
        go_wp2_with fail
        refine (fit2_any x _).mono ?_
        rintro e w' ⟨rfl, rfl⟩
        rw [HF.out]
        go_wp2
        go_ret
        exact ⟨ret_int HV.out.symm, rfl⟩
    · have HV := hide (findE_miss farB l (fun i hi => hno.out i hi (by omega)))
      go_wp2
      go_ret
      exact ⟨ret_int HV.out.symm, rfl⟩

set_option maxHeartbeats 1000000 in
theorem anyFar_any (l : List Int) (p : Option Addr) (cap : Nat) (w : World) (hl : l.length ≤ 9223372036854775807) (hI : IntsAt w p l) :
    Calls Tryz.prog 26 #[.slice p l.length cap, .func (.func 28) #[] #[]] w fun e w' => e = .returned (.bool (l.any farB)) ∧ w' = w := by
  have HC := hide (indexFar_any l p cap w hl hI)
  have HG := hide (findE_ge farB l)
  clear hI
  generalize findE farB l = x at *
  go_enter Tryz.func26, Tryz.ntmps26
  go_wp2_with fail
  refine HC.out.mono ?_
  rintro e w' ⟨rfl, rfl⟩
  go_wp2
  go_ret
  exact ⟨ret_bool HG.out, rfl⟩
end Go.Proofs.YtagaemlgompggaaGreatDoor
