/- For all clauses, every list of clauses as a proof and every list of bools: where proof.Check says that it is a proof, cnf.Holds does not say that all clauses hold: the law latchworklaw.ProofSound returns true, and leaves what it is handed as it was. No condition. -/
import Derived.Test.YtdlfjijfdibocaaRows
import Derived.Test.YtdlfjijfdibocaaUaM
import Derived.Test.YtdlfjijfdibocaaSb
namespace Go.Proofs.Ytdlfjijfdibocaa
open Go.ChangeShapes Go.WideShapes Go.ChangeAt Go.RowKit Go.Deep
set_option maxRecDepth 100000

theorem proofSound_lifted (os : Os) (started : os.Started) (H : Type) (enc : TypeId × Value → H) :
    ReturnsInHanded {} Try.checked os 3 .any (Rows.proofSoundSpec.pre6 enc Try.prog Try.f3 Rows.proofSoundRow.domain false) (Rows.proofSoundSpec.post enc Try.prog Try.f3 false true false false) := by
  refine returnsInHanded_of_change_sized (C := Try.checked) own started (by kernel_rfl) Try.func3
    (ChangeSpec.witness6 (enc := enc) (C := Try.checked) false ⟨#[], #[.agg #[.int .i64 0, .slice none 0 0], .slice none 0 0, .slice none 0 0], []⟩ 8 (by kernel_rfl) (by kernel_rfl) (by kernel_rfl) (by kernel_rfl)) ?_
  intro W base args ds gs before hval0 hW _ hsz0 _
  have hsz : (DataW.weightsEach Try.prog (Try.f3.params.toList ++ Rows.proofSoundSpec.plain.varTypes Try.prog) (ds ++ gs)).all (· ≤ reachBytes) = true := hsz0
  clear hsz0
  have hval : ∀ (j : Nat) t v, Try.f3.params[j]? = some t → args[j]? = some v → Value.okWide Try.prog W .any base t v := hval0
  have hW' := hW
  obtain ⟨p, q, hA0, hV, rfl, _, _⟩ := hW
  have hA : DataW.TrodAll enc Try.prog W 0 (fun _ => true) true Try.f3.params.toList args.toList ds p := hA0
  rw [Try.params3] at hA hval hsz
  obtain ⟨v0, v1, v2, d0, d1, d2, p0, p1, p2, rfl, rfl, rfl, h0, h1, h2⟩ := trodAll_three hA
  obtain ⟨rfl, rfl⟩ := trodVars_none hV
  obtain ⟨vars, gp, gc, rs, hv0, gn, gC, gin, gl⟩ := Pf.in_clauses (hval 0 24 v0 rfl rfl) h0
  have lt0 : ∀ x ∈ p0, x.block < W.heap.size := by obtain ⟨m, hm⟩ := h0; exact DataW.trod_lt m _ _ _ hm
  have lt1 : ∀ x ∈ p1, x.block < W.heap.size := by obtain ⟨m, hm⟩ := h1; exact DataW.trod_lt m _ _ _ hm
  have lt2 : ∀ x ∈ p2, x.block < W.heap.size := by obtain ⟨m, hm⟩ := h2; exact DataW.trod_lt m _ _ _ hm
  have h1' := h1
  have h2' := h2
  obtain ⟨b1, len1, cap1, rfl⟩ := okWide_slice Try.underlying22 (hval 1 22 v1 rfl rfl)
  obtain ⟨b2, len2, cap2, rfl⟩ := okWide_slice Try.underlying25 (hval 2 25 v2 rfl rfl)
  obtain ⟨fuel1, hf1⟩ := h1'
  obtain ⟨fuel2, hf2⟩ := h2'
  simp only [Value.cells] at hf1 hf2
  obtain ⟨pr, kr, ps, hv1, nr, hR, hlr, hrl⟩ := Pf.in_rows hf1
  obtain ⟨pb, kb, bs, hv2, nb, hB, hlb⟩ := in_bools hf2
  simp only [List.append_nil, List.cons_append, List.nil_append, DataW.weightsEach, List.all_append, Bool.and_eq_true] at hsz
  obtain ⟨s0, s1, _⟩ := hsz
  rw [hv0] at hW' h0 ⊢
  rw [hv1] at hW' h1 ⊢
  rw [hv2] at hW' h2 ⊢
  clear hA0 hval0 hval hA hf1 hf2
  refine (Pf.sound_walk vars gp pr gc kr rs ps (gl s0) (hrl s1) (fun r hr => by
    rcases List.mem_append.1 hr with hr | hr
    · exact gin r hr
    · exact hlr r hr) gn nr bs pb kb hlb W gC hR hB).mono fun e W' ⟨he, bel⟩ => ?_
  subst he
  exact ⟨_, rfl, _, _, _, [], _, [], hW', trodAll_mk1 (shut_bool Try.underlying4 _),
    trodAll_cons_mk (Below.trod laidOut (by kernel_rfl) (of_decide_eq_true (by kernel_rfl)) h0 bel lt0)
      (trodAll_cons_mk (Below.trod laidOut (by kernel_rfl) (of_decide_eq_true (by kernel_rfl)) h1 bel lt1)
        (trodAll_cons_mk (Below.trod laidOut (by kernel_rfl) (of_decide_eq_true (by kernel_rfl)) h2 bel lt2) trodAll_mk0)), rfl, bel.frame _, fun h => by cases h⟩

theorem proofSound_over : Rows.proofSoundRow.holds Try.pinned (OpenSpec.ofChange Rows.proofSoundSpec) :=
  OpenClaim.holds_of_wide 3 Try.f3 rfl rfl rfl rfl rfl rfl rfl ⟨rfl, rfl, rfl, rfl, rfl⟩ rfl rfl rfl rfl rfl (by kernel_rfl) Try.func3 (by kernel_rfl)
    (of_decide_eq_true (by kernel_rfl)) (by unfold Func.isWrapper; first | (rw [if_pos (by decide +kernel)]; kernel_rfl) | (rw [if_neg (by decide +kernel)]; exact ⟨rfl, rfl⟩))
    (fun os started H enc _ => proofSound_lifted os started H enc)

theorem proofSound_holds : Rows.ProofSoundSaid := proofSound_over
#print axioms proofSound_holds
end Go.Proofs.Ytdlfjijfdibocaa
