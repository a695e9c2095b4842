/- For every graph, every list of roots and every two lists of bools: what the graph tells by the Ins makes all clauses of cnf.Of hold but those of roots that are not so, and what makes them hold is told by the graph: the law latchworklaw.CnfTells returns true, and leaves what it is handed as it was. No condition. -/
import Derived.Test.YtabnimgpednhjabRows
import Derived.Test.YtabnimgpednhjabGp
import Derived.Test.YtabnimgpednhjabCh
namespace Go.Proofs.Ytabnimgpednhjab
open Go.ChangeShapes Go.WideShapes Go.ChangeAt Go.RowKit Go.Deep
set_option maxRecDepth 100000

section
variable {H : Type} {enc : TypeId × Value → H} {W : World} {base : Nat} {sp : Nat → Bool} {held : Bool} {fuel : Nat} {v : Value} {x : DataW H × List MemPlace}
theorem in_boolsC (h : DataW.trod enc Try.prog W base sp held fuel 35 [v] = some x) :
    ∃ p c l, v = .slice p (List.length l) c ∧ (p = none → c = 0) ∧ BoolsAt W p l ∧ l.length ≤ maxLen ∧ l.length ≤ c := by
  obtain ⟨p, c, l, h1, h2, h3, h4⟩ := in_bools h
  refine ⟨p, c, l, h1, h2, h3, h4, ?_⟩
  rcases open_slice1 Try.underlying35 cells4 h with ⟨hcs, hx⟩ | ⟨a, len, cap, m, n, V, D, Pl, hcs, _, hl, hm, hmm, hx, hcell⟩
  · simp at hcs
    rw [hcs] at h1
    injection h1 with _ e2 _
    omega
  · simp at hcs
    rw [hcs] at h1
    injection h1 with _ e2 e3
    omega
end

set_option maxRecDepth 100000 in
theorem cnfTells_lifted (os : Os) (started : os.Started) (H : Type) (enc : TypeId × Value → H) :
    ReturnsInHanded {} Try.checked os 7 .any (Rows.cnfTellsSpec.pre6 enc Try.prog Try.f7 Rows.cnfTellsRow.domain false) (Rows.cnfTellsSpec.post enc Try.prog Try.f7 false true false false) := by
  refine returnsInHanded_of_change_sized (C := Try.checked) own started (by kernel_rfl) Try.func7
    (ChangeSpec.witness6 (enc := enc) (C := Try.checked) false ⟨#[], #[.agg #[.int .i64 0, .slice none 0 0], .slice none 0 0, .slice none 0 0, .slice none 0 0], []⟩ 8 (by kernel_rfl) (by kernel_rfl) (by kernel_rfl) (by kernel_rfl)) ?_
  intro W base args ds gs before hval0 hW _ hsz0 _
  have hsz : (DataW.weightsEach Try.prog (Try.f7.params.toList ++ Rows.cnfTellsSpec.plain.varTypes Try.prog) (ds ++ gs)).all (· ≤ reachBytes) = true := hsz0
  clear hsz0
  have hval : ∀ (j : Nat) t v, Try.f7.params[j]? = some t → args[j]? = some v → Value.okWide Try.prog W .any base t v := hval0
  have hW' := hW
  obtain ⟨p, q, hA0, hV, rfl, _, _⟩ := hW
  have hA : DataW.TrodAll enc Try.prog W 0 (fun _ => true) true Try.f7.params.toList args.toList ds p := hA0
  rw [Try.params7] at hA hval hsz
  obtain ⟨v0, v1, v2, v3, d0, d1, d2, d3, p0, p1, p2, p3, rfl, rfl, rfl, h0, h1, h2, h3⟩ := trodAll_four hA
  obtain ⟨rfl, rfl⟩ := trodVars_none hV
  obtain ⟨ins, gp, gc, ps, hv0, _, gP, gW, gl⟩ := in_graph (hval 0 24 v0 rfl rfl) h0
  have lt0 : ∀ x ∈ p0, x.block < W.heap.size := by obtain ⟨m, hm⟩ := h0; exact DataW.trod_lt m _ _ _ hm
  have lt1 : ∀ x ∈ p1, x.block < W.heap.size := by obtain ⟨m, hm⟩ := h1; exact DataW.trod_lt m _ _ _ hm
  have lt2 : ∀ x ∈ p2, x.block < W.heap.size := by obtain ⟨m, hm⟩ := h2; exact DataW.trod_lt m _ _ _ hm
  have lt3 : ∀ x ∈ p3, x.block < W.heap.size := by obtain ⟨m, hm⟩ := h3; exact DataW.trod_lt m _ _ _ hm
  have h1' := h1
  have h2' := h2
  have h3' := h3
  obtain ⟨b1, len1, cap1, rfl⟩ := okWide_slice Try.underlying36 (hval 1 36 v1 rfl rfl)
  obtain ⟨b2, len2, cap2, rfl⟩ := okWide_slice Try.underlying35 (hval 2 35 v2 rfl rfl)
  obtain ⟨b3, len3, cap3, rfl⟩ := okWide_slice Try.underlying35 (hval 3 35 v3 rfl rfl)
  obtain ⟨fuel1, hf1⟩ := h1'
  obtain ⟨fuel2, hf2⟩ := h2'
  obtain ⟨fuel3, hf3⟩ := h3'
  simp only [Value.cells] at hf1 hf2 hf3
  obtain ⟨pr, kr, rs, hv1, hI, hl1⟩ := in_ints hf1
  obtain ⟨pb, kb, bs, hv2, nb, hB, hlb⟩ := in_bools hf2
  obtain ⟨pu, ku, vs, hv3, nu, hU, hlu, hcu⟩ := in_boolsC hf3
  simp only [List.append_nil, List.cons_append, List.nil_append, DataW.weightsEach, List.all_append, Bool.and_eq_true] at hsz
  obtain ⟨s0, s1, _⟩ := hsz
  rw [hv0] at hW' h0 ⊢
  rw [hv1] at hW' h1 ⊢
  rw [hv2] at hW' h2 ⊢
  rw [hv3] at hW' h3 ⊢
  clear hA0 hval0 hval hA hf1 hf2 hf3
  refine (tells_walk ins gp gc ps gW (gl s0) pr kr rs (hl1 s1) pb kb bs hlb nb pu ku vs hlu nu hcu W gP hI hB hU).mono fun e W' ⟨he, bel⟩ => ?_
  subst he
  exact ⟨_, rfl, _, _, _, [], _, [], hW', trodAll_mk1 (shut_bool Try.underlying4 _),
    trodAll_cons_mk (Below.trod laidOut (by kernel_rfl) (of_decide_eq_true (by kernel_rfl)) h0 bel lt0)
      (trodAll_cons_mk (Below.trod laidOut (by kernel_rfl) (of_decide_eq_true (by kernel_rfl)) h1 bel lt1)
        (trodAll_cons_mk (Below.trod laidOut (by kernel_rfl) (of_decide_eq_true (by kernel_rfl)) h2 bel lt2)
          (trodAll_cons_mk (Below.trod laidOut (by kernel_rfl) (of_decide_eq_true (by kernel_rfl)) h3 bel lt3) trodAll_mk0))), rfl, bel.frame _, fun h => by cases h⟩

theorem cnfTells_over : Rows.cnfTellsRow.holds Try.pinned (OpenSpec.ofChange Rows.cnfTellsSpec) :=
  OpenClaim.holds_of_wide 7 Try.f7 rfl rfl rfl rfl rfl rfl rfl ⟨rfl, rfl, rfl, rfl, rfl⟩ rfl rfl rfl rfl rfl (by kernel_rfl) Try.func7 (by kernel_rfl)
    (of_decide_eq_true (by kernel_rfl)) (by unfold Func.isWrapper; first | (rw [if_pos (by decide +kernel)]; kernel_rfl) | (rw [if_neg (by decide +kernel)]; exact ⟨rfl, rfl⟩))
    (fun os started H enc _ => cnfTells_lifted os started H enc)

theorem cnfTells_holds : Rows.CnfTellsSaid := cnfTells_over
#print axioms cnfTells_holds
end Go.Proofs.Ytabnimgpednhjab
