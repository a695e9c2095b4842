/- A list of numbers that comes in, and its room. -/
import Derived.Test.YtabnimgpednhjaaOa
namespace Go.Proofs.Ytabnimgpednhjaa
open Go.ChangeShapes Go.WideShapes Go.ChangeAt Go.RowKit Go.Deep

section
variable {H : Type} {enc : TypeId × Value → H} {W : World} {base : Nat} {sp : Nat → Bool} {held : Bool} {fuel : Nat} {v : Value} {x : DataW H × List MemPlace}

theorem in_intsC (h : DataW.trod enc Try.prog W base sp held fuel 31 [v] = some x) :
    ∃ p c l, v = .slice p (List.length l) c ∧ (p = none → c = 0) ∧ IntsAt W p l ∧ ((x.1.weights Try.prog 31).all (· ≤ reachBytes) = true → l.length ≤ 17592186043904) ∧ l.length ≤ c ∧ c ≤ maxLen := by
  rcases open_ints Try.underlying31 Try.underlying3 cells3 h with ⟨hcs, hx⟩ | ⟨a, len, cap, zs, hcs, _, hl, hm, hz, hx, hcell, _⟩
  · simp at hcs
    exact ⟨none, 0, [], hcs, fun _ => rfl, (fun h => by simp at h), (fun _ => by simp), by simp, by simp⟩
  · simp at hcs
    have hlz : len ≤ zs.length := by rw [hz]; split <;> omega
    refine ⟨some a, cap, zs.take len, by rw [hcs, List.length_take, Nat.min_eq_left hlz], (fun h => by cases h), ?_, ?_, by rw [List.length_take]; omega, hm⟩
    · intro h0
      rw [List.length_take, Nat.min_eq_left hlz] at h0
      obtain ⟨b, off, spot⟩ := a
      have hspot : spot = none := by simpa [Addr.add] using World.cell?_spot (hcell 0 (by omega))
      subst hspot
      refine ⟨b, off, rfl, fun i hi => ?_⟩
      have hi' : i < zs.length := by rw [List.length_take] at hi; omega
      have := hcell i hi'
      rw [Addr.add_lit] at this
      rw [this]
      simp [List.getD, List.getElem?_eq_getElem hi']
    · intro hw
      subst hx
      have := weigh Try.underlying31 hw
      rw [bytes3] at this
      simp only [lits, List.length_map, reachBytes] at this
      omega

end

end Go.Proofs.Ytabnimgpednhjaa
