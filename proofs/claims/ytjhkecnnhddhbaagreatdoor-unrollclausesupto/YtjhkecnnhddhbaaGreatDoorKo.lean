/- Steps, unrolled: how many clauses there are, and how long they are. -/
import Derived.Test.YtjhkecnnhddhbaaGreatDoorKn
namespace Go.Proofs.YtjhkecnnhddhbaaGreatDoor
open Go.RowKit Go.Maps Go.WideMaps
set_option maxRecDepth 100000
set_option autoImplicit false

theorem stepsL_len {f : Nat → List (List Int)} {c n : Nat} (h : ∀ k, k < n → (f k).length = c) : (stepsL f n).length = n * c := by
  induction n with
  | zero => simp [stepsL]
  | succ n ih =>
    rw [stepsL_succ, List.length_append, ih (fun k hk => h k (by omega)), h n (by omega), Nat.succ_mul]
/-- A count that goes on as the lists do. -/
theorem stepsL_cnt {f : Nat → List (List Int)} {g : Nat → Nat} {n : Nat} (h0 : g 0 = 0) (h : ∀ k, k < n → g (k + 1) = g k + (f k).length) : (stepsL f n).length = g n := by
  induction n with
  | zero => rw [h0]; simp [stepsL]
  | succ n ih =>
    rw [stepsL_succ, List.length_append, ih (fun k hk => h k (by omega)), h n (by omega)]
theorem mem_stepsL {f : Nat → List (List Int)} {n : Nat} {c : List Int} (h : c ∈ stepsL f n) : ∃ k, k < n ∧ c ∈ f k := by
  unfold stepsL at h
  obtain ⟨k, hk, hc⟩ := List.mem_flatMap.1 h
  exact ⟨k, List.mem_range.1 hk, hc⟩
theorem atL_one {f x : Int} {t : Nat} (h0 : 0 ≤ (t : Int) * f) (hx : 0 ≤ x) : (atL f t x = 0 ↔ x = 0) ∧ (atL f t x = 1 ↔ x = 1) := by
  unfold atL
  split <;> omega
theorem cntB_succ {z : Int} {l : List Int} {k : Nat} (h : k < l.length) : cntB z l (k + 1) = cntB z l k + (if l.getD k 0 = z then 0 else 1) := by
  show cntB z l k + (if l.getD k z = z then 0 else 1) = _
  simp [List.getD, List.getElem?_eq_getElem h]
theorem CO.f0 {w : World} {C : Ci} {last : Nat} (h : CO w C last) : 0 ≤ C.f := by unfold Ci.f; have := h.i0; omega
theorem CO.t0 {w : World} {C : Ci} {last : Nat} (h : CO w C last) (t : Nat) : 0 ≤ (t : Int) * C.f := Int.mul_nonneg (by omega) h.f0
theorem CO.sb {w : World} {C : Ci} {last : Nat} (h : CO w C last) (t i : Nat) : 2 ≤ stL C.f C.a t i := by
  have := h.t0 t
  have := h.a0
  unfold stL atL
  rw [if_neg (by omega)]
  omega
theorem ands_len {w : World} {C : Ci} {last : Nat} (_h : CO w C last) : (stepsL (fun t => andsT C t C.ps.length) (last + 1)).length = (last + 1) * (3 * C.ps.length) := stepsL_len fun _ _ => andsT_len C _ _ (Nat.le_refl _)
theorem bonds_len {w : World} {C : Ci} {last : Nat} (h : CO w C last) : (stepsL (bondsT C) last).length = last * (cntB 0 C.n.ns C.n.ns.length + cntB 1 C.n.ns C.n.ns.length) := by
  refine stepsL_len fun t _ => stepsL_cnt (g := fun k => cntB 0 C.n.ns k + cntB 1 C.n.ns k) rfl fun k hk => ?_
  have hx := h.nn _ (getD_mem' hk)
  have ha := atL_one (h.t0 t) hx.1
  simp only [cntB_succ hk]
  unfold bondC
  rw [sameC_len (h.sb _ _)]
  simp only [ha.1, ha.2]
  omega
theorem holds_len {w : World} {C : Ci} {last : Nat} (h : CO w C last) : (stepsL (holdsT C) (last + 1)).length = (last + 1) * cntB 1 C.h.ns C.h.ns.length := by
  refine stepsL_len fun t _ => stepsL_cnt (g := fun k => cntB 1 C.h.ns k) rfl fun k hk => ?_
  have hx := h.nh _ (getD_mem' hk)
  have ha := atL_one (h.t0 t) hx.1
  simp only [cntB_succ hk]
  unfold holdC
  rw [rootC_len]
  simp only [ha.2]
theorem hang_false {l : List Int} (h : l.any hangI = false) (hl : ∀ x ∈ l, x = -1 ∨ 0 ≤ x) : ∀ x ∈ l, x = -1 ∨ x = 0 ∨ x = 1 := fun x hx => by
  have h1 := List.any_eq_false.1 h x hx
  have h2 := hl x hx
  simp [hangI] at h1
  omega
theorem begins_len {w : World} {C : Ci} {last : Nat} (h : CO w C last) (hh : C.i.ns.any hangI = false) : (beginsT C).length = cntB (-1) C.i.ns C.i.ns.length := by
  refine stepsL_cnt (g := fun k => cntB (-1) C.i.ns k) rfl fun k hk => ?_
  have hx := hang_false hh (fun x hx => (h.ni x hx).imp id (fun q => q.1)) _ (getD_mem' hk)
  simp only [cntB_succ hk]
  unfold beginC
  generalize C.i.ns.getD k 0 = x at *
  by_cases hm : x = -1
  · rw [if_pos hm, if_pos hm]; rfl
  · rw [if_neg hm, if_neg hm, sameC_len (h.sb _ _)]
    rcases hx.resolve_left hm with rfl | rfl <;> rfl
theorem andsC_short {ins : Int} {ps : List (Int × Int)} {k : Nat} {c : List Int} (h : c ∈ andsC ins ps k) : c.length ≤ 3 := by
  induction k with
  | zero => cases h
  | succ k ih =>
    unfold andsC at h
    rcases List.mem_append.1 h with h | h
    · exact ih h
    · split at h
      · simp [andC] at h
        rcases h with rfl | rfl | rfl <;> simp
      · cases h
theorem rootC_short {x : Int} {c : List Int} (h : c ∈ rootC x) : c.length ≤ 1 := by
  unfold rootC at h
  split at h
  · cases h
  · split at h
    · simp at h; subst h; simp
    · simp at h; subst h; simp
theorem sameC_short {x y : Int} {c : List Int} (h : c ∈ sameC x y) : c.length ≤ 2 := by
  unfold sameC at h
  split at h
  · have := rootC_short h; omega
  · split at h
    · have := rootC_short h; omega
    · simp at h
      rcases h with rfl | rfl <;> simp
theorem badC_short {C : Ci} {last : Nat} {c : List Int} (h : c ∈ badC C last) : c.length ≤ C.b.ns.length := by
  unfold badC at h
  split at h
  · cases h
  · simp at h; subst h; exact badN_len C last _
/-- All clauses of so many steps. -/
def stepL (C : Ci) (last : Nat) (begun : Bool) : List (List Int) :=
  stepsL (fun t => andsT C t C.ps.length) (last + 1) ++ (stepsL (bondsT C) last ++ ((if begun = true then beginsT C else []) ++ (stepsL (holdsT C) (last + 1) ++ badC C last)))
theorem stepL_short {w : World} {C : Ci} {last : Nat} (h : CO w C last) {begun : Bool} {c : List Int} (hc : c ∈ stepL C last begun) : c.length ≤ 2000000 := by
  have hb := h.bl
  unfold stepL at hc
  rcases List.mem_append.1 hc with hc | hc
  · obtain ⟨k, _, hc⟩ := mem_stepsL hc
    have := andsC_short hc
    omega
  rcases List.mem_append.1 hc with hc | hc
  · obtain ⟨k, _, hc⟩ := mem_stepsL hc
    obtain ⟨j, _, hc⟩ := mem_stepsL hc
    have := sameC_short hc
    omega
  rcases List.mem_append.1 hc with hc | hc
  · split at hc
    · obtain ⟨j, _, hc⟩ := mem_stepsL hc
      unfold beginC at hc
      split at hc
      · cases hc
      · have := sameC_short hc
        omega
    · cases hc
  rcases List.mem_append.1 hc with hc | hc
  · obtain ⟨k, _, hc⟩ := mem_stepsL hc
    obtain ⟨j, _, hc⟩ := mem_stepsL hc
    have := rootC_short hc
    omega
  · have := badC_short hc
    omega
/-- What is said of so many steps. -/
def unE (C : Ci) (steps : Int) (begun : Bool) : Int :=
  if C.e ≠ 0 then C.e else if steps < 0 ∨ 40 < steps then 3 else if (begun && C.i.ns.any hangI) = true then 7
  else if 200000 < (steps + 1) * C.f then 3 else if 800000 < (stepL C steps.toNat begun).length then 2 else chkC ((steps + 1) * C.f) (stepL C steps.toNat begun)
end Go.Proofs.YtjhkecnnhddhbaaGreatDoor
