/- For every model and any two numbers: the circuit that blast.Blast makes of the model tells just what the document's plain text says that the model does (next states, which bits begin as they like and how the others begin, bads, holds), and Blast's errors are what it says: the law latchworklaw.BlastTells returns true, and leaves what it is handed as it was. No condition. -/
import Derived.Test.YtabnimgpednhjabGreatRows
import Derived.Test.YtabnimgpednhjabGreatGdM
import Derived.Test.YtabnimgpednhjabGreatLg
import Derived.Test.YtabnimgpednhjabGreatBq
namespace Go.Proofs.YtabnimgpednhjabGreat
open Go.ChangeShapes Go.WideShapes Go.ChangeAt Go.RowKit Go.Deep
theorem blastTells_walk (a0 a1 a2 a3 a4 : Option Addr) (c0 c1 c2 c3 c4 : Nat) (ns : List Nd) (is xs : List (Int × Int)) (bs hs : List Int) (hln : ns.length ≤ 2932031007402) (hli : is.length ≤ 8796093022208) (hlx : xs.length ≤ 8796093022208) (hlb : bs.length ≤ maxLen) (hlh : hs.length ≤ maxLen) (hn3 : a3 = none → c3 = 0) (hn4 : a4 = none → c4 = 0) (st ip : Int) (hst : -9223372036854775808 ≤ st ∧ st ≤ 9223372036854775807) (hip : -9223372036854775808 ≤ ip ∧ ip ≤ 9223372036854775807) (w : World)
   (hN : NodesAt w a0 ns) (hI : PairsAt w a1 is) (hX : PairsAt w a2 xs) (hBs : IntsAt w a3 bs) (hHs : IntsAt w a4 hs) :
   Calls Tryz.prog 4 #[Mv.val ⟨a0, c0, a1, is.length, c1, a2, xs.length, c2, a3, bs.length, c3, a4, hs.length, c4⟩ ns.length, .int .i64 st, .int .i64 ip] w fun e w' => e = .returned (.bool true) ∧ Below w.heap.size w w' := by
 by_cases hck : checkE ns is xs bs hs = 0
 · exact tellsG_walk begunB_any a0 a1 a2 a3 a4 c0 c1 c2 c3 c4 ns is xs bs hs hck hli hlx hn3 hn4 st ip hst hip w hN hI hX hBs hHs
 · exact tellsE_walk begunB_any a0 a1 a2 a3 a4 c0 c1 c2 c3 c4 ns is xs bs hs hck hln hli hlx hlb hlh hn3 hn4 st ip w hN hI hX hBs hHs
set_option maxRecDepth 100000 in
theorem blastTells_lifted (os : Os) (started : os.Started) (H : Type) (enc : TypeId × Value → H) :
   ReturnsInHanded {} Tryz.checked os 4 .any (Rows.blastTellsSpec.pre6 enc Tryz.prog Tryz.f4 Rows.blastTellsRow.domain false) (Rows.blastTellsSpec.post enc Tryz.prog Tryz.f4 false true false false) := by
 refine returnsInHanded_of_change_sized (C := Tryz.checked) own started (by kernel_rfl) Tryz.func4
   (ChangeSpec.witness6 (enc := enc) (C := Tryz.checked) false ⟨#[], #[.agg #[.slice none 0 0, .slice none 0 0, .slice none 0 0, .slice none 0 0, .slice none 0 0], .int .i64 0, .int .i64 0], []⟩ 8 (by kernel_rfl) (by kernel_rfl) (by kernel_rfl) (by kernel_rfl)) ?_
 intro W base args ds gs before hval0 hW _ hsz0 _
 have hsz : (DataW.weightsEach Tryz.prog (Tryz.f4.params.toList ++ Rows.blastTellsSpec.plain.varTypes Tryz.prog) (ds ++ gs)).all (· ≤ reachBytes) = true := hsz0
 clear hsz0
 have hval : ∀ (j : Nat) t v, Tryz.f4.params[j]? = some t → args[j]? = some v → Value.okWide Tryz.prog W .any base t v := hval0
 have hW' := hW
 obtain ⟨p, q, hA0, hV, rfl, _, _⟩ := hW
 have hA : DataW.TrodAll enc Tryz.prog W 0 (fun _ => true) true Tryz.f4.params.toList args.toList ds p := hA0
 rw [Tryz.params4] at hA hval hsz
 obtain ⟨v0, vs0, d0, ds0, p0, q0, hargs, rfl, rfl, h0, r0⟩ := trodAll_cons hA
 obtain ⟨v1, vs1, d1, ds1, p1, q1, rfl, rfl, rfl, h1, r1⟩ := trodAll_cons r0
 obtain ⟨v2, vs2, d2, ds2, p2, q2, rfl, rfl, rfl, h2, r2⟩ := trodAll_cons r1
 obtain ⟨rfl, rfl, rfl⟩ := trodAll_nil r2
 obtain rfl : args = #[v0, v1, v2] := by cases args; simp_all
 obtain ⟨rfl, rfl⟩ := trodVars_none hV
 obtain ⟨m⟩ := in_model (hval 0 35 v0 rfl rfl) h0
 obtain ⟨st, hv1, _, _, wf1⟩ := open_int Tryz.underlying3 (hval 1 3 v1 rfl rfl) h1
 obtain ⟨ip, hv2, _, _, wf2⟩ := open_int Tryz.underlying3 (hval 2 3 v2 rfl rfl) h2
 have lt0 : ∀ x ∈ p0, x.block < W.heap.size := by obtain ⟨m, hm⟩ := h0; exact DataW.trod_lt m _ _ _ hm
 have lt1 : ∀ x ∈ p1, x.block < W.heap.size := by obtain ⟨m, hm⟩ := h1; exact DataW.trod_lt m _ _ _ hm
 have lt2 : ∀ x ∈ p2, x.block < W.heap.size := by obtain ⟨m, hm⟩ := h2; exact DataW.trod_lt m _ _ _ hm
 simp only [List.append_nil, List.cons_append, List.nil_append, DataW.weightsEach, List.all_append, Bool.and_eq_true] at hsz
 have s0 := hsz.1
 have hst : -9223372036854775808 ≤ st ∧ st ≤ 9223372036854775807 := by
   simp only [Lit.wf, Bool.and_eq_true, decide_eq_true_eq, show IntKind.i64.min = -9223372036854775808 by decide, show IntKind.i64.max = 9223372036854775807 by decide] at wf1
   exact wf1
 have hip : -9223372036854775808 ≤ ip ∧ ip ≤ 9223372036854775807 := by
   simp only [Lit.wf, Bool.and_eq_true, decide_eq_true_eq, show IntKind.i64.min = -9223372036854775808 by decide, show IntKind.i64.max = 9223372036854775807 by decide] at wf2
   exact wf2
 rw [m.val] at hW' h0 ⊢
 rw [hv1] at hW' h1 ⊢
 rw [hv2] at hW' h2 ⊢
 clear hA0 hval0 hval hA
 refine (blastTells_walk m.a0 m.a1 m.a2 m.a3 m.a4 m.c0 m.c1 m.c2 m.c3 m.c4 m.ns m.is m.xs m.bs m.hs (m.ln s0) (m.li s0) (m.lx s0) (by have := m.lb s0; unfold maxLen; omega) (by have := m.lh s0; unfold maxLen; omega) m.n3 m.n4 st ip hst hip W m.nodes m.inits m.nexts m.bads m.holds).mono fun e W' ⟨he, bel⟩ => ?_
 subst he
 exact ⟨_, rfl, _, _, _, [], _, [], hW', trodAll_mk1 (shut_bool Tryz.underlying4 _),
   trodAll_cons_mk (Below.trod laidOut (by kernel_rfl) (of_decide_eq_true (by kernel_rfl)) h0 bel lt0)
     (trodAll_cons_mk (Below.trod laidOut (by kernel_rfl) (of_decide_eq_true (by kernel_rfl)) h1 bel lt1)
       (trodAll_cons_mk (Below.trod laidOut (by kernel_rfl) (of_decide_eq_true (by kernel_rfl)) h2 bel lt2) trodAll_mk0)), rfl, bel.frame _, fun h => by cases h⟩
theorem blastTells_over : Rows.blastTellsRow.holds Tryz.pinned (OpenSpec.ofChange Rows.blastTellsSpec) :=
 OpenClaim.holds_of_wide 4 Tryz.f4 rfl rfl rfl rfl rfl rfl rfl ⟨rfl, rfl, rfl, rfl, rfl⟩ rfl rfl rfl rfl rfl (by kernel_rfl) Tryz.func4 (by kernel_rfl)
   (of_decide_eq_true (by kernel_rfl)) (by unfold Func.isWrapper; first | (rw [if_pos (by decide +kernel)]; kernel_rfl) | (rw [if_neg (by decide +kernel)]; exact ⟨rfl, rfl⟩))
   (fun os started H enc _ => blastTells_lifted os started H enc)
theorem blastTells_holds : Rows.BlastTellsSaid := blastTells_over
#print axioms blastTells_holds
end Go.Proofs.YtabnimgpednhjabGreat
