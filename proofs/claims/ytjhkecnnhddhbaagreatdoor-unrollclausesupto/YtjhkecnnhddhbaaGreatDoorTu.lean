/- Steps, unrolled: what is said of them, plainly. -/
import Derived.Test.YtjhkecnnhddhbaaGreatDoorTl
import Derived.Test.YtjhkecnnhddhbaaGreatDoorTh
namespace Go.Proofs.YtjhkecnnhddhbaaGreatDoor
open Go.RowKit Go.Maps Go.WideMaps
set_option maxRecDepth 100000
set_option autoImplicit false

theorem hang_ck {l : List Int} (h : ∀ x ∈ l, x = -1 ∨ 0 ≤ x) : l.any hangI = l.any fun x => decide (1 < x) := by
  rw [Bool.eq_iff_iff]
  simp only [List.any_eq_true, decide_eq_true_eq]
  constructor
  · rintro ⟨x, hx, h1⟩
    refine ⟨x, hx, ?_⟩
    simp [hangI] at h1
    have := h x hx
    omega
  · rintro ⟨x, hx, h1⟩
    refine ⟨x, hx, ?_⟩
    simp [hangI]
    omega
theorem un_ck {w : World} {C : Ci} {steps : Int} {begun : Bool} (hC : CIn w C) (h : ckE C steps begun ≠ 0) : unE C steps begun = ckE C steps begun := by
  unfold unE
  unfold ckE stE at h ⊢
  by_cases h0 : C.e = 0
  · by_cases hs : 0 ≤ steps ∧ steps ≤ 40
    · have hCO := co_of hC h0 0 (by omega)
      have hh := hang_ck (l := C.i.ns) (fun x hx => (hCO.ni x hx).imp id (fun q => q.1))
      have e1 : (if C.e = 0 ∧ ¬ (0 ≤ steps ∧ steps ≤ 40) then (3 : Int) else C.e) = 0 := by rw [if_neg (fun e => e.2 hs)]; exact h0
      rw [e1] at h ⊢
      rw [if_neg (show ¬ (0 : Int) ≠ 0 by simp)] at h
      rw [if_neg (show ¬ C.e ≠ 0 by simpa using h0), if_neg (show ¬ (steps < 0 ∨ 40 < steps) by omega), hh, if_neg (show ¬ (0 : Int) ≠ 0 by simp)]
      by_cases h1 : (begun && C.i.ns.any fun x => decide (1 < x)) = true
      · rw [if_pos h1, if_pos h1]
      · rw [if_neg h1] at h; exact absurd rfl h
    · have e1 : (if C.e = 0 ∧ ¬ (0 ≤ steps ∧ steps ≤ 40) then (3 : Int) else C.e) = 3 := if_pos ⟨h0, hs⟩
      rw [e1, if_neg (show ¬ C.e ≠ 0 by simpa using h0), if_pos (show steps < 0 ∨ 40 < steps by omega), if_pos (show (3 : Int) ≠ 0 by decide)]
  · have e1 : (if C.e = 0 ∧ ¬ (0 ≤ steps ∧ steps ≤ 40) then (3 : Int) else C.e) = C.e := if_neg (fun e => h0 e.1)
    rw [e1, if_pos h0, if_pos h0]
theorem ck_zero {C : Ci} {steps : Int} {begun : Bool} (h : ckE C steps begun = 0) : C.e = 0 ∧ (0 ≤ steps ∧ steps ≤ 40) ∧ (begun = true → ∀ x ∈ C.i.ns, ¬ 1 < x) := by
  unfold ckE stE at h
  by_cases h0 : C.e = 0
  · by_cases hs : 0 ≤ steps ∧ steps ≤ 40
    · have e1 : (if C.e = 0 ∧ ¬ (0 ≤ steps ∧ steps ≤ 40) then (3 : Int) else C.e) = 0 := by rw [if_neg (fun e => e.2 hs)]; exact h0
      rw [e1, if_neg (by simp)] at h
      refine ⟨h0, hs, fun hb x hx hx1 => ?_⟩
      subst hb
      rw [if_pos (by simp only [Bool.true_and, List.any_eq_true, decide_eq_true_eq]; exact ⟨x, hx, hx1⟩)] at h
      cases h
    · rw [show (if C.e = 0 ∧ ¬ (0 ≤ steps ∧ steps ≤ 40) then (3 : Int) else C.e) = 3 from if_pos ⟨h0, hs⟩, if_pos (by decide)] at h; cases h
  · rw [show (if C.e = 0 ∧ ¬ (0 ≤ steps ∧ steps ≤ 40) then (3 : Int) else C.e) = C.e from if_neg (fun e => h0 e.1), if_pos h0] at h; exact absurd h h0
theorem un_zero {w : World} {C : Ci} {steps : Int} {begun : Bool} (hC : CIn w C) (h : ckE C steps begun = 0) :
    unE C steps begun = if 200000 < (steps + 1) * C.f then 3 else chkC ((steps + 1) * C.f) (stepL C steps.toNat begun) := by
  obtain ⟨h0, hs, hb⟩ := ck_zero h
  have hCO := co_of hC h0 0 (by omega)
  have hh := hang_ck (l := C.i.ns) (fun x hx => (hCO.ni x hx).imp id (fun q => q.1))
  unfold unE
  rw [if_neg (by simpa using h0), if_neg (by omega), hh, if_neg]
  · split
    · rfl
    · split
      · have hf := hCO.f0
        have hV : 0 ≤ (steps + 1) * C.f := Int.mul_nonneg (by omega) hf
        unfold chkC
        rw [if_neg, if_pos (by assumption)]
        rw [btw_true.2 ⟨hV, by omega⟩]
        simp
      · rfl
  · cases begun with
    | false => simp
    | true =>
      simp only [Bool.true_and, List.any_eq_true, decide_eq_true_eq]
      rintro ⟨x, hx, h1⟩
      exact hb rfl x hx h1
/-- How many clauses there are at most. -/
theorem stepL_le {w : World} {C : Ci} {last : Nat} (hC : COk w C last) (begun : Bool) : (stepL C last begun).length ≤ 200000000 := by
  have hla := hC.la
  have h1 := ands_le C (last + 1) (by omega) hC.pl
  have h2 := bonds_le C last 0 (by omega) (by omega) (by have := hC.nl; have := hC.sm; have := hC.i1; have := hC.a0; omega)
  have h3 := begins_le C C.i.ns.length (by have := hC.il; have := hC.sm; have := hC.i1; have := hC.a0; omega)
  have h4 := holds_le C (last + 1) 0 (by omega) (by omega) hC.hl
  have h5 : (badC C last).length ≤ 1 := by unfold badC; split <;> simp
  have h6 : (if begun = true then beginsT C else []).length ≤ 2000 := by split; exact h3; simp
  unfold stepL
  simp only [List.length_append]
  omega
end Go.Proofs.YtjhkecnnhddhbaaGreatDoor
