/- Clauses that come in. -/
import Derived.Test.YtabnimgpednhjabDoorPd
import Derived.Test.YtabnimgpednhjabDoorGp
namespace Go.Proofs.YtabnimgpednhjabDoor
open Go.ChangeShapes Go.WideShapes Go.ChangeAt Go.RowKit Go.Deep
set_option maxRecDepth 100000
set_option maxRecDepth 100000

theorem cellsC : Tryd.prog.cellsOf 24 = 2 := by kernel_rfl
theorem cellsL : Tryd.prog.cellsOf 22 = 1 := by kernel_rfl
theorem cellsI : Tryd.prog.cellsOf 36 = 1 := by kernel_rfl
theorem bytesI : Tryd.prog.bytesOf 36 = 24 := by kernel_rfl

section
variable {H : Type} {enc : TypeId × Value → H} {W : World} {base : Nat} {sp : Nat → Bool} {held : Bool} {fuel : Nat} {v : Value} {x : DataW H × List MemPlace}

theorem in_row (h : DataW.trod enc Tryd.prog W base sp held fuel 36 [v] = some x) : ∃ r : Row, v = r.v ∧ IntsAt W r.at' r.ns ∧ r.ns.length ≤ maxLen := by
  obtain ⟨p, c, l, h1, h2, _⟩ := in_ints h
  refine ⟨⟨p, l, c⟩, h1, h2, ?_⟩
  rcases open_ints Tryd.underlying36 Tryd.underlying3 cells3 h with ⟨hcs, hx⟩ | ⟨a, len, cap, zs, hcs, _, hl, hm, hz, hx, hcell, _⟩
  · simp at hcs
    rw [hcs] at h1
    injection h1 with _ e2 _
    show l.length ≤ maxLen
    unfold maxLen; omega
  · simp at hcs
    rw [hcs] at h1
    injection h1 with _ e2 e3
    show l.length ≤ maxLen
    omega

theorem in_rows (h : DataW.trod enc Tryd.prog W base sp held fuel 22 [v] = some x) :
    ∃ p c rs, v = .slice p (List.length rs) c ∧ ClAt W p rs ∧ (∀ r ∈ rs, r.ns.length ≤ maxLen) ∧ ((x.1.weights Tryd.prog 22).all (· ≤ reachBytes) = true → rs.length ≤ 8796093022208) := by
  rcases open_slice1 Tryd.underlying22 cellsI h with ⟨hcs, hx⟩ | ⟨a, len, cap, m, n, V, D, Pl, hcs, _, hl, hm, hmm, hx, hcell⟩
  · simp at hcs
    exact ⟨none, 0, [], hcs, clAt_nil _, fun r hr => by simp at hr, fun _ => by simp⟩
  · simp at hcs
    have hlm : len ≤ m := by rw [hmm]; split <;> omega
    have hinh : Inhabited Row := ⟨⟨none, [], 0⟩⟩
    obtain ⟨F, hF⟩ := choose_lt (α := Row) (n := len) (p := fun i r => V i = r.v ∧ IntsAt W r.at' r.ns ∧ r.ns.length ≤ maxLen) (fun i hi => in_row (hcell i (by omega)).2)
    have hlen : ((List.range len).map F).length = len := by simp
    refine ⟨some a, cap, (List.range len).map F, by rw [hcs, hlen], ⟨?_, ?_⟩, ?_, ?_⟩
    · intro h0
      rw [hlen] at h0
      obtain ⟨b, off, spot⟩ := a
      have hspot : spot = none := by simpa [Addr.add] using World.cell?_spot (hcell 0 (by omega)).1
      subst hspot
      refine ⟨b, off, rfl, fun i hi => ?_⟩
      have hi' : i < len := by rw [hlen] at hi; exact hi
      have := (hcell i (by omega)).1
      rw [Addr.add_lit, (hF i hi').1] at this
      rw [this, List.getElem_map, List.getElem_range]
    · intro r hr
      obtain ⟨i, hi, rfl⟩ := List.mem_map.1 hr
      exact (hF i (List.mem_range.1 hi)).2.1
    · intro r hr
      obtain ⟨i, hi, rfl⟩ := List.mem_map.1 hr
      exact (hF i (List.mem_range.1 hi)).2.2
    · intro hw
      subst hx
      have := weigh Tryd.underlying22 hw
      rw [bytesI] at this
      simp only [List.length_map, List.length_range, reachBytes] at this
      rw [hlen]
      omega
end

theorem in_clauses {H : Type} {enc : TypeId × Value → H} {W : World} {r : Reach} {b0 base : Nat} {sp : Nat → Bool} {held : Bool} {v : Value} {d : DataW H} {p : List MemPlace}
    (hv : Value.okWide Tryd.prog W r b0 24 v) (h : DataW.Trod enc Tryd.prog W base sp held 24 v d p) :
    ∃ vars q c rs, v = cval vars q (List.length rs) c ∧ ClAt W q rs ∧ (∀ r ∈ rs, r.ns.length ≤ maxLen) ∧ ((d.weights Tryd.prog 24).all (· ≤ reachBytes) = true → rs.length ≤ 8796093022208) := by
  obtain ⟨cs, rfl, hsz⟩ := okWide_struct Tryd.underlying24 hv
  obtain ⟨v0, v1, rfl⟩ := two_cells (hsz.trans cellsC)
  obtain ⟨fuel, hf⟩ := h
  simp only [Value.cells] at hf
  obtain ⟨y, m, _, hxy, _, hl, hx⟩ := DataW.trod_struct Tryd.underlying24 hf
  have hl2 : y.length = 2 := hl
  match y, hl2 with
  | [y0, y1], _ =>
    have e0 := hx 0 _ rfl
    have e1 := hx 1 _ rfl
    simp [cells3] at e0
    simp [cellsL] at e1
    obtain ⟨n0, g0, _⟩ := DataW.trod_int Tryd.underlying3 e0
    simp at g0
    subst g0
    obtain ⟨a1, c1, rs, rfl, H1, F1, L1⟩ := in_rows e1
    have hd : d = .agg [y0.1, y1.1] := by simpa using congrArg Prod.fst hxy
    refine ⟨n0, a1, c1, rs, rfl, H1, F1, fun hs => L1 ?_⟩
    rw [hd] at hs
    simp only [DataW.weights, Tryd.underlying24, List.map_cons, List.map_nil, DataW.weightsEach, List.all_append, Bool.and_eq_true] at hs
    exact hs.2.1

end Go.Proofs.YtabnimgpednhjabDoor
