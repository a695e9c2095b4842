/- For every circuit and every number of steps, together of bulk at most 1048576: prove.Different answers just what the plain text of the document says, errors too, and the toggle and the still model are told as they are: the law latchworklaw.ProveDifferents returns true, and leaves what it is handed as it was. The second form, its card: tied to the pruned copy of the project that the seat loads. -/
import Derived.Test.YtmambfdimeeijaaGreatDoorRows
import Derived.Test.YtmambfdimeeijaaGreatDoorCards
import Derived.Test.YtmambfdimeeijaaGreatDoorTie
import Derived.Test.YtmambfdimeeijaaGreatDoorTcM
import Derived.Test.YtmambfdimeeijaaGreatDoorSkM
import Derived.ChangeMaps5
import Derived.LaidMore
import Derived.Lay
import Derived.Stop.Joined
import Derived.Stop.LaidErr
import Derived.Deep.DeepHandedRow
import Derived.SevenTiedAt
namespace Go.Proofs.YtmambfdimeeijaaGreatDoor
open Go.ChangeShapes Go.WideShapes Go.ChangeAt Go.RowKit
set_option maxRecDepth 100000
abbrev zeroC : Value := .agg #[.int .i64 0, .slice none 0 0, .int .i64 0, .int .i64 0, .slice none 0 0, .slice none 0 0, .slice none 0 0, .slice none 0 0]
theorem bulk_two {H : Type} {d0 d1 : DataW H} (h : Rows.uptoSmall H [d0, d1] = true) : Rows.uptoBulk d0 ≤ 1048576 := by
 have h1 : Rows.uptoBulkAll [d0, d1] ≤ 1048576 := of_decide_eq_true h
 simp only [Rows.uptoBulkAll] at h1
 omega
theorem proveDifferents_lifted (os : Os) (started : os.Started) (H : Type) (enc : TypeId × Value → H) (F : Stop.Interp) :
   ReturnsInHanded {} Tryz.checked os 3 .any ((Rows.OpenSpec.upto Rows.proveDifferentsSpec).preRow enc Tryz.prog Tryz.f3 Rows.proveDifferentsUptoRow.domain false Rows.proveDifferentsUptoRow.laid) (((Rows.OpenSpec.upto Rows.proveDifferentsSpec).at F).post enc Tryz.prog Tryz.f3 false true false false) := by
 have hx : ∃ places, DataW.whole enc Tryz.prog ((World.laidAll Tryz.prog os Rows.proveDifferentsUptoRow.laid).forCall (fun _ _ => 0) ⟨#[], #[zeroC, .int .i64 0], []⟩).memory Tryz.f3.params.toList Rows.proveDifferentsSpec.vars false #[zeroC, .int .i64 0].toList 8 = some ([.agg [.agg [.lit (.int .i64 0), .nil], .lit (.int .i64 0), .lit (.int .i64 0), .nil, .nil, .nil, .nil], .lit (.int .i64 0)], [], places) := ⟨[], by kernel_rfl⟩
 obtain ⟨places, hx⟩ := hx
 have hok : Input.okWideB Tryz.prog ((World.laidAll Tryz.prog os Rows.proveDifferentsUptoRow.laid).forCall (fun _ _ => 0) ⟨#[], #[zeroC, .int .i64 0], []⟩) 3 ⟨#[], #[zeroC, .int .i64 0], []⟩ = true := by kernel_rfl
 refine returnsInHanded_of_row (C := Tryz.checked) (s := Rows.OpenSpec.upto Rows.proveDifferentsSpec) own started (by kernel_rfl) Tryz.func3
   ⟨World.laidAll Tryz.prog os Rows.proveDifferentsUptoRow.laid, fun _ _ => 0, ⟨#[], #[zeroC, .int .i64 0], []⟩, World.laidAll_os _ _ _, World.shaped_of_ZipB (by kernel_rfl) (by kernel_rfl), (Input.okWide_of_okWideB (base := 0) hok).1, (Input.okWide_of_okWideB hok).2,
     OpenSpec.preRow_of_cond 8 hx (by kernel_rfl) (fun k hk => by cases hk; kernel_rfl) (by kernel_rfl) (by rw [MakeChecks.laidMetH_plain _ _ _ (by kernel_rfl)]; exact laidMet_laidAll _ (by kernel_rfl) (by kernel_rfl)),
     by simp only [Assume.holds]; exact ⟨by simp, by simp, fun _ => Modest.zero, by simp, by simp⟩⟩ ?_
 intro W base args ds gs before hval0 hW _ hcond hsz0 hL hsh _
 have hsz : (DataW.weightsEach Tryz.prog (Tryz.f3.params.toList ++ Rows.proveDifferentsSpec.plain.varTypes Tryz.prog) (ds ++ gs)).all (· ≤ reachBytes) = true := hsz0
 clear hsz0
 have hval : ∀ (j : Nat) t v, Tryz.f3.params[j]? = some t → args[j]? = some v → Value.okWide Tryz.prog W .any base t v := hval0
 have hW' := hW
 obtain ⟨p, q, hA0, hV, rfl, _, _⟩ := hW
 have hA : DataW.TrodAll enc Tryz.prog W 0 (fun _ => true) true Tryz.f3.params.toList args.toList ds p := hA0
 rw [Tryz.params3] at hA hval hsz
 obtain ⟨v0, v1, d0, d1, p0, p1, rfl, rfl, rfl, h0, h1⟩ := trodAll_two hA
 obtain ⟨rfl, rfl⟩ := trodVars_none hV
 obtain ⟨ins, gp, gc, ps, a, s, li, ln, lb, lh, hv0, hC, gW, wa, ws, hl, hb, hh⟩ := in_circuit (hval 0 27 v0 rfl rfl) h0
 obtain ⟨st, rfl, rfl, rfl, w1⟩ := open_int Tryz.underlying3 (hval 1 3 v1 rfl rfl) h1
 have lt0 : ∀ x ∈ p0, x.block < W.heap.size := by obtain ⟨m, hm⟩ := h0; exact DataW.trod_lt m _ _ _ hm
 have hbk : Rows.uptoBulk d0 ≤ 1048576 := bulk_two (by have := hcond _ rfl; simpa using this)
 simp only [List.append_nil, List.cons_append, List.nil_append, DataW.weightsEach, List.all_append, Bool.and_eq_true] at hsz
 obtain ⟨l0, l1, l2, l3, l4⟩ := hl hsz.1
 rw [hv0] at hW' h0 ⊢
 clear hA0 hval0 hval hA
 refine (differents_walk ⟨ins, gp, ps, gc, a, s, li, ln, lb, lh⟩ st W ⟨hC, gW, by simp only; omega, wa, ws, by unfold maxLen; simp only; omega, by unfold maxLen; simp only; omega, by simp only; omega, by simp only; omega⟩).mono fun e W' ⟨he, bel⟩ => ?_
 subst he
 exact ⟨_, rfl, _, _, _, [], _, [], hW', trodAll_mk1 (shut_bool Tryz.underlying4 _),
   trodAll_cons_mk (Below.trod laidOut (by kernel_rfl) (of_decide_eq_true (by kernel_rfl)) h0 bel lt0) (trodAll_cons_mk (shut_int Tryz.underlying3 w1) trodAll_mk0), rfl, bel.frame _, fun h => by cases h⟩
theorem proveDifferents_over : Rows.ProveDifferentsUptoSaid :=
 OpenClaim.holds_of_cond 3 Tryz.f3 rfl rfl rfl rfl rfl rfl rfl ⟨rfl, rfl, rfl, rfl, rfl⟩ rfl rfl rfl rfl rfl (by kernel_rfl) Tryz.func3 closedFacts
   (of_decide_eq_true (by kernel_rfl)) (by unfold Func.isWrapper; first | (rw [if_pos (by decide +kernel)]; kernel_rfl) | (rw [if_neg (by decide +kernel)]; exact ⟨rfl, rfl⟩))
   (fun os started H enc _ F => by rw [OpenClaim.pre_eq_preRow]; exact proveDifferents_lifted os started H enc F)
theorem proveDifferents_card : Rows.ProveDifferentsUptoCardSaid :=
 Claim7.holds_tied_plain_at .later [] _ _ _ _ proveDifferents_over (fun _ h => by cases h) (by kernel_rfl) (fun _ h => by cases h) proveDifferentsUpto_row_tie rfl ⟨rfl, rfl⟩ (by kernel_rfl) rfl
   (fun f fn hf hfn => by
     obtain rfl : f = 3 := Option.some.inj ((show Tryz.prog.funcNamed "latchwork/latchworklaw.ProveDifferents" = some 3 by kernel_rfl).symm.trans hf) |>.symm
     obtain rfl : fn = Tryz.f3 := (Option.some.inj (Tryz.func3.symm.trans hfn)).symm
     exact ⟨by kernel_rfl, fun j t ht => by
       rw [Tryz.params3] at ht
       have hm : t ∈ [27, 3] := by simpa using Array.mem_of_getElem? ht
       have hall : ([27, 3].all fun u => !Tryz.prog.wantsStandIn u) = true := by kernel_rfl
       exact (show Tryz.prog.wantsStandIn t = false by simpa using List.all_eq_true.1 hall t hm)⟩)
   (by kernel_rfl)
#print axioms proveDifferents_card
end Go.Proofs.YtmambfdimeeijaaGreatDoor
