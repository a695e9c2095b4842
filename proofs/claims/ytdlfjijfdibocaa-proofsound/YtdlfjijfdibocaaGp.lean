/- Gates: what a graph is that comes in; lists of numbers, and of bools. -/
import Derived.Test.YtdlfjijfdibocaaRows
import Derived.Test.YtdlfjijfdibocaaGoM
import Derived.ProofKit
import Derived.SizedLaws
import Derived.OpenShut
import Derived.ChangeOld
import Derived.Below
import Derived.Deep.Slices
namespace Go.Proofs.Ytdlfjijfdibocaa
open Go.ChangeShapes Go.WideShapes Go.ChangeAt Go.RowKit Go.Deep
set_option maxRecDepth 100000

theorem own : ownKnob Try.prog.godebug = none := by kernel_rfl
theorem laidOut : laidOutB Try.prog = true := by kernel_rfl
theorem cells3 : Try.prog.cellsOf 3 = 1 := by kernel_rfl
theorem cells4 : Try.prog.cellsOf 4 = 1 := by kernel_rfl
theorem cells22 : Try.prog.cellsOf 37 = 1 := by kernel_rfl
theorem cells24 : Try.prog.cellsOf 39 = 2 := by kernel_rfl
theorem cells55 : Try.prog.cellsOf 36 = 2 := by kernel_rfl
theorem bytes3 : Try.prog.bytesOf 3 = 8 := by kernel_rfl
theorem bytes4 : Try.prog.bytesOf 4 = 1 := by kernel_rfl
theorem bytes55 : Try.prog.bytesOf 36 = 16 := by kernel_rfl

theorem wf_of {n : Int} (h : (Lit.int .i64 n).wf = true) : Wf n := by
  unfold Lit.wf at h
  simp only [Bool.and_eq_true, decide_eq_true_eq] at h
  exact ⟨h.1, h.2⟩

section
variable {H : Type} {enc : TypeId × Value → H} {W : World} {base : Nat} {sp : Nat → Bool} {held : Bool} {fuel : Nat} {v : Value} {x : DataW H × List MemPlace}

theorem weigh {t e : TypeId} {es ss : List (DataW H)} (hu : Try.prog.underlying t = some (.slice e)) (h : ((DataW.slice es ss).weights Try.prog t).all (· ≤ reachBytes) = true) : es.length * Try.prog.bytesOf e ≤ reachBytes := by
  have h1 := List.all_eq_true.1 h ((es.length + ss.length) * Try.prog.bytesOf e) (by simp [DataW.weights, hu])
  have h2 : (es.length + ss.length) * Try.prog.bytesOf e ≤ reachBytes := by simpa using h1
  exact Nat.le_trans (Nat.mul_le_mul_right _ (Nat.le_add_right _ _)) h2

theorem in_ints (h : DataW.trod enc Try.prog W base sp held fuel 32 [v] = some x) :
    ∃ p c l, v = .slice p (List.length l) c ∧ IntsAt W p l ∧ ((x.1.weights Try.prog 32).all (· ≤ reachBytes) = true → l.length ≤ 17592186043904) := by
  rcases open_ints Try.underlying32 Try.underlying3 cells3 h with ⟨hcs, hx⟩ | ⟨a, len, cap, zs, hcs, _, hl, hm, hz, hx, hcell, _⟩
  · simp at hcs
    exact ⟨none, 0, [], hcs, fun h => by simp at h, fun _ => by simp⟩
  · simp at hcs
    have hlz : len ≤ zs.length := by rw [hz]; split <;> omega
    refine ⟨some a, cap, zs.take len, by rw [hcs, List.length_take, Nat.min_eq_left hlz], ?_, ?_⟩
    · intro h0
      rw [List.length_take, Nat.min_eq_left hlz] at h0
      obtain ⟨b, off, spot⟩ := a
      have hspot : spot = none := by simpa [Addr.add] using World.cell?_spot (hcell 0 (by omega))
      subst hspot
      refine ⟨b, off, rfl, fun i hi => ?_⟩
      have hi' : i < zs.length := by rw [List.length_take] at hi; omega
      have := hcell i hi'
      rw [Addr.add_lit] at this
      rw [this]
      simp [List.getD, List.getElem?_eq_getElem hi']
    · intro hw
      subst hx
      have := weigh Try.underlying32 hw
      rw [bytes3] at this
      simp only [lits, List.length_map, reachBytes] at this
      omega

theorem in_bools (h : DataW.trod enc Try.prog W base sp held fuel 25 [v] = some x) :
    ∃ p c l, v = .slice p (List.length l) c ∧ (p = none → c = 0) ∧ BoolsAt W p l ∧ l.length ≤ maxLen := by
  rcases open_slice1 Try.underlying25 cells4 h with ⟨hcs, hx⟩ | ⟨a, len, cap, m, n, V, D, Pl, hcs, _, hl, hm, hmm, hx, hcell⟩
  · simp at hcs
    exact ⟨none, 0, [], hcs, fun _ => rfl, fun h => by simp at h, by simp⟩
  · simp at hcs
    have hlm : len ≤ m := by rw [hmm]; split <;> omega
    obtain ⟨F, hF⟩ := choose_lt (α := Bool) (n := len) (p := fun i b => V i = .bool b) (fun i hi => by
      obtain ⟨b, h1, _⟩ := DataW.trod_bool Try.underlying4 (hcell i (by omega)).2
      exact ⟨b, by simpa using h1⟩)
    have hlen : ((List.range len).map F).length = len := by simp
    refine ⟨some a, cap, (List.range len).map F, by rw [hcs, hlen], (fun h => by cases h), ?_, by rw [hlen]; omega⟩
    intro h0
    rw [hlen] at h0
    obtain ⟨b, off, spot⟩ := a
    have hspot : spot = none := by simpa [Addr.add] using World.cell?_spot (hcell 0 (by omega)).1
    subst hspot
    refine ⟨b, off, rfl, fun i hi => ?_⟩
    have hi' : i < len := by rw [hlen] at hi; exact hi
    have := (hcell i (by omega)).1
    rw [Addr.add_lit, hF i hi'] at this
    rw [this, List.getElem_map, List.getElem_range]

theorem in_pairs (h : DataW.trod enc Try.prog W base sp held fuel 37 [v] = some x) :
    ∃ p c l, v = .slice p (List.length l) c ∧ (p = none → c = 0) ∧ PairsAt W p l ∧ WfP l ∧ ((x.1.weights Try.prog 37).all (· ≤ reachBytes) = true → l.length ≤ 8796093021952) := by
  rcases open_slice Try.underlying37 h with ⟨hcs, hx⟩ | ⟨a, len, cap, m, n, D, Pl, hcs, _, hl, hm, hmm, hx, hcell⟩
  · simp at hcs
    exact ⟨none, 0, [], hcs, fun _ => rfl, fun h => by simp at h, fun i h => by simp at h, fun _ => by simp⟩
  · simp at hcs
    have hlm : len ≤ m := by rw [hmm]; split <;> omega
    have key : ∀ i, i < len → ∃ q : Int × Int, W.cell? (a.add (i * 2 + 0)) = some (.int .i64 q.1) ∧ W.cell? (a.add (i * 2 + 1)) = some (.int .i64 q.2) ∧ Wf q.1 ∧ Wf q.2 := by
      intro i hi
      obtain ⟨cs, hc, ht⟩ := hcell i (by omega)
      rw [cells55] at hc
      obtain ⟨_, hlen, hat⟩ := World.cells?_some hc
      obtain ⟨y, q, _, _, _, hl2, hx2⟩ := DataW.trod_array Try.underlying36 ht
      match cs, hlen with
      | [w0, w1], _ =>
        have e0 := hx2 0 (by omega)
        have e1 := hx2 1 (by omega)
        rw [List.getElem?_eq_getElem (by omega)] at e0 e1
        obtain ⟨n0, h0, _, f0⟩ := DataW.trod_int Try.underlying3 e0
        obtain ⟨n1, h1, _, f1⟩ := DataW.trod_int Try.underlying3 e1
        simp [cells3] at h0 h1
        subst h0 h1
        have g : ∀ j, (a.add (i * 2)).add j = a.add (i * 2 + j) := fun j => Go.Deep.add_add _ _ _
        refine ⟨(n0, n1), ?_, ?_, wf_of f0, wf_of f1⟩
        · have := hat 0 (by omega); rw [g] at this; exact this
        · have := hat 1 (by omega); rw [g] at this; exact this
    obtain ⟨F, hF⟩ := choose_lt key
    have hlen : ((List.range len).map F).length = len := by simp
    refine ⟨some a, cap, (List.range len).map F, by rw [hcs, hlen], (fun h => by cases h), ?_, ?_, ?_⟩
    · intro h0
      rw [hlen] at h0
      obtain ⟨b, off, spot⟩ := a
      have hspot : spot = none := by simpa [Addr.add] using World.cell?_spot (hF 0 (by omega)).1
      subst hspot
      refine ⟨b, off, rfl, fun i hi => ?_⟩
      have hi' : i < len := by rw [hlen] at hi; exact hi
      obtain ⟨e0, e1, _⟩ := hF i hi'
      rw [Addr.add_lit] at e0 e1
      rw [List.getElem_map, List.getElem_range]
      exact ⟨e0, by rw [Nat.add_assoc]; exact e1⟩
    · intro i hi
      have hi' : i < len := by rw [hlen] at hi; exact hi
      rw [List.getElem_map, List.getElem_range]
      exact (hF i hi').2.2
    · intro hw
      subst hx
      have := weigh Try.underlying37 hw
      rw [bytes55] at this
      simp only [List.length_map, List.length_range, reachBytes] at this
      rw [hlen]
      omega

theorem two_cells {α : Type} {cs : Array α} (h : cs.size = 2) : ∃ c0 c1, cs = #[c0, c1] := by
  obtain ⟨l⟩ := cs
  match l, h with
  | [a, b], _ => exact ⟨a, b, rfl⟩

end

set_option maxRecDepth 100000 in
theorem in_graph {H : Type} {enc : TypeId × Value → H} {W : World} {r : Reach} {b0 base : Nat} {sp : Nat → Bool} {held : Bool} {v : Value} {d : DataW H} {p : List MemPlace}
    (hv : Value.okWide Try.prog W r b0 39 v) (h : DataW.Trod enc Try.prog W base sp held 39 v d p) :
    ∃ ins q c ps, v = gval ins q (List.length ps) c ∧ (q = none → c = 0) ∧ PairsAt W q ps ∧ WfP ps ∧ ((d.weights Try.prog 39).all (· ≤ reachBytes) = true → ps.length ≤ 8796093021952) := by
  obtain ⟨cs, rfl, hsz⟩ := okWide_struct Try.underlying39 hv
  obtain ⟨v0, v1, rfl⟩ := two_cells (hsz.trans cells24)
  obtain ⟨fuel, hf⟩ := h
  simp only [Value.cells] at hf
  obtain ⟨y, m, _, hxy, _, hl, hx⟩ := DataW.trod_struct Try.underlying39 hf
  have hl2 : y.length = 2 := hl
  match y, hl2 with
  | [y0, y1], _ =>
    have e0 := hx 0 _ rfl
    have e1 := hx 1 _ rfl
    simp [cells3] at e0
    simp [cells22] at e1
    obtain ⟨n0, g0, _⟩ := DataW.trod_int Try.underlying3 e0
    simp at g0
    subst g0
    obtain ⟨a1, c1, ps, rfl, N1, H1, F1, L1⟩ := in_pairs e1
    have hd : d = .agg [y0.1, y1.1] := by simpa using congrArg Prod.fst hxy
    refine ⟨n0, a1, c1, ps, rfl, N1, H1, F1, fun hs => L1 ?_⟩
    rw [hd] at hs
    simp only [DataW.weights, Try.underlying39, List.map_cons, List.map_nil, DataW.weightsEach, List.all_append, Bool.and_eq_true] at hs
    exact hs.2.1

end Go.Proofs.Ytdlfjijfdibocaa
