/- For every model and all states: explore.Explore and explore.Can answer just what the document's plain text does, errors too (what is found, and whether a state can be, of models of no more than nine bits): the law latchworklaw.ExploreAlls returns true, and leaves what it is handed as it was. No condition. -/
import Derived.Test.YtfobcnhibhbbaaaRows
import Derived.Test.YtfobcnhibhbbaaaYcM
import Derived.Test.YtfobcnhibhbbaaaZc
namespace Go.Proofs.Ytfobcnhibhbbaaa
open Go.ChangeShapes Go.WideShapes Go.ChangeAt Go.RowKit Go.Deep
set_option maxRecDepth 100000

theorem exploreAlls_lifted (os : Os) (started : os.Started) (H : Type) (enc : TypeId × Value → H) :
    ReturnsInHanded {} Try.checked os 3 .any (Rows.exploreAllsSpec.pre6 enc Try.prog Try.f3 Rows.exploreAllsRow.domain false) (Rows.exploreAllsSpec.post enc Try.prog Try.f3 false true false false) := by
  refine returnsInHanded_of_change_sized (C := Try.checked) own started (by kernel_rfl) Try.func3
    (ChangeSpec.witness6 (enc := enc) (C := Try.checked) false ⟨#[], #[.agg #[.slice none 0 0, .slice none 0 0, .slice none 0 0, .slice none 0 0, .slice none 0 0], .slice none 0 0], []⟩ 8 (by kernel_rfl) (by kernel_rfl) (by kernel_rfl) (by kernel_rfl)) ?_
  intro W base args ds gs before hval0 hW _ hsz0 _
  have hsz : (DataW.weightsEach Try.prog (Try.f3.params.toList ++ Rows.exploreAllsSpec.plain.varTypes Try.prog) (ds ++ gs)).all (· ≤ reachBytes) = true := hsz0
  clear hsz0
  have hval : ∀ (j : Nat) t v, Try.f3.params[j]? = some t → args[j]? = some v → Value.okWide Try.prog W .any base t v := hval0
  have hW' := hW
  obtain ⟨p, q, hA0, hV, rfl, _, _⟩ := hW
  have hA : DataW.TrodAll enc Try.prog W 0 (fun _ => true) true Try.f3.params.toList args.toList ds p := hA0
  rw [Try.params3] at hA hval hsz
  obtain ⟨v0, v1, d0, d1, p0, p1, rfl, rfl, rfl, h0, h1⟩ := trodAll_two hA
  obtain ⟨rfl, rfl⟩ := trodVars_none hV
  obtain ⟨m⟩ := in_model (hval 0 26 v0 rfl rfl) h0
  have lt0 : ∀ x ∈ p0, x.block < W.heap.size := by obtain ⟨m, hm⟩ := h0; exact DataW.trod_lt m _ _ _ hm
  have lt1 : ∀ x ∈ p1, x.block < W.heap.size := by obtain ⟨m, hm⟩ := h1; exact DataW.trod_lt m _ _ _ hm
  have h1' := h1
  obtain ⟨b1, len1, cap1, rfl⟩ := okWide_slice Try.underlying24 (hval 1 24 v1 rfl rfl)
  obtain ⟨fuel1, hf1⟩ := h1'
  simp only [Value.cells] at hf1
  obtain ⟨p4, k4, sts, hv1, _, hR1, hl1, h41, h42⟩ := in_intsC hf1
  simp only [List.append_nil, List.cons_append, List.nil_append, DataW.weightsEach, List.all_append, Bool.and_eq_true] at hsz
  obtain ⟨s0, s1, _⟩ := hsz
  rw [m.val] at hW' h0 ⊢
  rw [hv1] at hW' h1 ⊢
  clear hA0 hval0 hval hA hf1
  refine (Xp.exploreAlls_walk m.a0 m.a1 m.a2 m.a3 m.a4 m.c0 m.c1 m.c2 m.c3 m.c4 m.ns m.is m.xs m.bs m.hs (by have := m.ln s0; omega) (m.li s0) (m.lx s0) (by have := m.lb s0; unfold maxLen; omega) (by have := m.lh s0; unfold maxLen; omega) m.n3 m.n4 sts (by have := hl1 s1; unfold maxLen; omega) p4 k4 h41 h42 W ⟨m.nodes, m.inits, m.nexts, m.bads, m.holds⟩ hR1).mono fun e W' ⟨he, bel⟩ => ?_
  subst he
  exact ⟨_, rfl, _, _, _, [], _, [], hW', trodAll_mk1 (shut_bool Try.underlying4 _),
    trodAll_cons_mk (Below.trod laidOut (by kernel_rfl) (of_decide_eq_true (by kernel_rfl)) h0 bel lt0)
      (trodAll_cons_mk (Below.trod laidOut (by kernel_rfl) (of_decide_eq_true (by kernel_rfl)) h1 bel lt1) trodAll_mk0), rfl, bel.frame _, fun h => by cases h⟩

theorem exploreAlls_over : Rows.exploreAllsRow.holds Try.pinned (OpenSpec.ofChange Rows.exploreAllsSpec) :=
  OpenClaim.holds_of_wide 3 Try.f3 rfl rfl rfl rfl rfl rfl rfl ⟨rfl, rfl, rfl, rfl, rfl⟩ rfl rfl rfl rfl rfl (by kernel_rfl) Try.func3 (by kernel_rfl)
    (of_decide_eq_true (by kernel_rfl)) (by unfold Func.isWrapper; first | (rw [if_pos (by decide +kernel)]; kernel_rfl) | (rw [if_neg (by decide +kernel)]; exact ⟨rfl, rfl⟩))
    (fun os started H enc _ => exploreAlls_lifted os started H enc)

theorem exploreAlls_holds : Rows.ExploreAllsSaid := exploreAlls_over
#print axioms exploreAlls_holds
end Go.Proofs.Ytfobcnhibhbbaaa
