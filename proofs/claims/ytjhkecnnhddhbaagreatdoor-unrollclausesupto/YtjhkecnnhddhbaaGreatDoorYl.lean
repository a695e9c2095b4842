/- Cone: its contract. -/
import Derived.Test.YtjhkecnnhddhbaaGreatDoorYk
namespace Go.Proofs.YtjhkecnnhddhbaaGreatDoor.Ev
open Go.RowKit
set_option maxRecDepth 100000
set_option maxRecDepth 100000

/-- What Cone tells beside its list. -/
def coneE (ns : List Nd) (is xs : List (Int × Int)) (bs hs rs : List Int) : Int :=
  if checkE ns is xs bs hs ≠ 0 then checkE ns is xs bs hs else if rs.any (fun x => !isN ns.length x) then 5 else 0

/-- The list that Cone tells, beside its number. -/
def ConeIs (ns : List Nd) (is xs : List (Int × Int)) (rs : List Int) (co : Int) (l : List Int) : Prop := if co = 0 then ∃ S, l = sel S ns.length ∧ IsCone ns is xs rs S else l = []
theorem ConeIs.yes {ns : List Nd} {is xs : List (Int × Int)} {rs : List Int} {co : Int} {S : Nat → Bool} (h : co = 0) (hS : IsCone ns is xs rs S) : ConeIs ns is xs rs co (sel S ns.length) := by
  unfold ConeIs; rw [if_pos h]; exact ⟨S, rfl, hS⟩
theorem ConeIs.no {ns : List Nd} {is xs : List (Int × Int)} {rs : List Int} {co : Int} (h : co ≠ 0) : ConeIs ns is xs rs co [] := by
  unfold ConeIs; rw [if_neg h]

theorem firstE_zero {f : Int × Int → Int} {l : List (Int × Int)} (h : firstE f l = 0) : ∀ p ∈ l, f p = 0 := by
  induction l with
  | nil => intro p hp; cases hp
  | cons q t ih =>
    simp only [firstE] at h
    by_cases hq : f q = 0
    · rw [if_neg (by simp [hq])] at h
      intro p hp
      rcases List.mem_cons.1 hp with rfl | hp
      · exact hq
      · exact ih h p hp
    · rw [if_pos hq] at h
      exact absurd h hq

theorem pairs_zero {ns : List Nd} {is xs : List (Int × Int)} (h : pairsE ns is xs = 0) : (∀ p ∈ is, initE ns p = 0) ∧ (∀ p ∈ xs, pairE ns p.1 p.2 = 0) ∧ dup (fsts is) = false ∧ dup (fsts xs) = false := by
  unfold pairsE at h
  by_cases h1 : firstE (initE ns) is = 0
  · rw [if_neg (by simp [h1])] at h
    by_cases h2 : firstE (nextE ns) xs = 0
    · rw [if_neg (by simp [h2])] at h
      by_cases h3 : (dup (fsts is) || dup (fsts xs)) = true
      · rw [if_pos h3] at h; omega
      · simp only [Bool.or_eq_true, not_or, Bool.not_eq_true] at h3
        exact ⟨firstE_zero h1, firstE_zero h2, h3.1, h3.2⟩
    · rw [if_pos h2] at h; exact absurd h h2
  · rw [if_pos h1] at h; exact absurd h h1

theorem check_zero {ns : List Nd} {is xs : List (Int × Int)} {bs hs : List Int} (h : checkE ns is xs bs hs = 0) :
    (ns.length ≤ 80 ∧ bs.length ≤ 8 ∧ hs.length ≤ 8) ∧ firstN (nodeAtE ns) ns.length = 0 ∧ pairsE ns is xs = 0 ∧ marksE ns xs bs hs = 0 := by
  unfold checkE at h
  by_cases h1 : 80 < ns.length ∨ 8 < bs.length ∨ 8 < hs.length
  · rw [if_pos h1] at h; omega
  rw [if_neg h1] at h
  by_cases h2 : firstN (nodeAtE ns) ns.length = 0
  · rw [if_neg (by simp [h2])] at h
    by_cases h3 : 6 < sumW ns (sel (isK ns 2) ns.length) ∨ 10 < sumW ns (sel (isK ns 3) ns.length)
    · rw [if_pos h3] at h; omega
    rw [if_neg h3] at h
    by_cases h4 : pairsE ns is xs = 0
    · rw [if_neg (by simp [h4])] at h
      exact ⟨by omega, h2, h4, h⟩
    · rw [if_pos h4] at h; exact absurd h h4
  · rw [if_pos h2] at h; exact absurd h h2

theorem check_lok {ns : List Nd} {is xs : List (Int × Int)} {bs hs : List Int} (h : checkE ns is xs bs hs = 0) : ns.length ≤ 80 ∧ Lok ns is xs ∧ dup (fsts is) = false ∧ dup (fsts xs) = false := by
  obtain ⟨h1, h2, h3, _⟩ := check_zero h
  obtain ⟨p1, p2, p3, p4⟩ := pairs_zero h3
  exact ⟨h1.1, lok_of (nodes_ok h2).2 (fun p hp => init_zero (p1 p hp)) p2, p3, p4⟩

theorem owns_lenOf {w : World} {base : Nat} {e : TypeId} {size : Nat} {v : Value} {n : Nat} {xs : List Value} (h : w.ownsRow base e size v n xs) : lenOf v = n := by
  rcases h.2 with ⟨rfl, rfl⟩ | ⟨g, cap, cur, rfl, _⟩ <;> rfl

theorem Box.kept {w w' : World} {B : Nat} {m : Mv} {l0 : Nat} (h : Box w B m l0) (hk : ∀ a v, a.block = B → w.cell? a = some v → w'.cell? a = some v) : Box w' B m l0 := by
  obtain ⟨q0, q1, q2, q3, q4⟩ := h
  exact ⟨hk _ _ rfl q0, hk _ _ rfl q1, hk _ _ rfl q2, hk _ _ rfl q3, hk _ _ rfl q4⟩

end Go.Proofs.YtjhkecnnhddhbaaGreatDoor.Ev
