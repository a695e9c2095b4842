/-
  No cell of these rows narrows 'for every input' (looked for: loops, veiled, ifaces, maps, wideKeys, modest, calm, conditions, laid).
  DERIVED. THE GIVEN ROWS OF THIS SEAT. 6 by the template 'for every input the law returns true; each argument reads behind the call as it read before'; 0 by the template 'total and deterministic' (their statements: YtabnimgpednhjabTotals.lean).
  GIVEN WITH THE SEED: the statements are not yours to turn. If you find one false, say at which input.
  Laid BY PROGRAM, IN A SANDBOX (cutbox-rows.mjs): the forced cells as the released guide's own fill.sh prints them over the translation 8d7f2d615d0c20b3… (all of the seat's roots in one cut). By AI agents, Wed Nov 11 2026. No macro, syntax, notation, axiom, sorry.
-/
import Derived.Test.YtabnimgpednhjabChecked
import GoSem.Claim
import GoSem.ClaimJoined
import GoSem.ClaimMapViews
import Derived.JoinedTies
import Derived.KernelRfl
namespace Go.Proofs.Ytabnimgpednhjab
/- THE CELL 'sum', in the pinned program and in every row, IS THE sha256 OF THE DUMP (.gsa) THAT YtabnimgpednhjabProg.lean LOADS. Nothing in Lean hashes anything: it is a label: what it is worth is what the hold of that sum in a sandbox is worth. -/
noncomputable def Try.pinned : Pinned := { name := "ytabnimgpednhjab", sum := "8d7f2d615d0c20b354a947d14883cceadc0dae0b561b2da276a9e72bd70aacca", checked := Try.checked }
namespace Rows
def none {H : Type} : Left H := { results := [], args := [] }

/-- 'latchworklaw.GatesAnds': WHATEVER THE INPUT: true; the input reads as it did. -/
def gatesAndsSpec : ChangeSpec := { name := "gatesAnds", fn := fun _ => fun
  | [d1, d2, d3] => { results := [.lit (.bool true)], args := [d1, d2, d3] }
  | _ => none }
def gatesAndsRow : OpenClaim := { program := "ytabnimgpednhjab", sum := "8d7f2d615d0c20b354a947d14883cceadc0dae0b561b2da276a9e72bd70aacca", func := "latchwork/latchworklaw.GatesAnds", spec := "gatesAnds", unfollowed := true, recurses := true, plainKeys := false, apart := false }
def GatesAndsSaid : Prop := gatesAndsRow.holds Try.pinned (OpenSpec.ofChange gatesAndsSpec)

/-- ITS FALSE NEIGHBOUR: 'it returns false'. Refute it at one input. -/
def gatesAndsWrong : ChangeSpec := { name := "gatesAnds", fn := fun _ => fun
  | [d1, d2, d3] => { results := [.lit (.bool false)], args := [d1, d2, d3] }
  | _ => none }
def GatesAndsWrongFalsely : Prop := gatesAndsRow.holds Try.pinned (OpenSpec.ofChange gatesAndsWrong)

/-- 'latchworklaw.GatesEvals': WHATEVER THE INPUT: true; the input reads as it did. -/
def gatesEvalsSpec : ChangeSpec := { name := "gatesEvals", fn := fun _ => fun
  | [d1, d2, d3] => { results := [.lit (.bool true)], args := [d1, d2, d3] }
  | _ => none }
def gatesEvalsRow : OpenClaim := { program := "ytabnimgpednhjab", sum := "8d7f2d615d0c20b354a947d14883cceadc0dae0b561b2da276a9e72bd70aacca", func := "latchwork/latchworklaw.GatesEvals", spec := "gatesEvals", unfollowed := true, recurses := true, plainKeys := false, apart := false }
def GatesEvalsSaid : Prop := gatesEvalsRow.holds Try.pinned (OpenSpec.ofChange gatesEvalsSpec)

/-- ITS FALSE NEIGHBOUR: 'it returns false'. Refute it at one input. -/
def gatesEvalsWrong : ChangeSpec := { name := "gatesEvals", fn := fun _ => fun
  | [d1, d2, d3] => { results := [.lit (.bool false)], args := [d1, d2, d3] }
  | _ => none }
def GatesEvalsWrongFalsely : Prop := gatesEvalsRow.holds Try.pinned (OpenSpec.ofChange gatesEvalsWrong)

/-- 'latchworklaw.GatesKeep': WHATEVER THE INPUT: true; the input reads as it did. -/
def gatesKeepSpec : ChangeSpec := { name := "gatesKeep", fn := fun _ => fun
  | [d1, d2, d3, d4] => { results := [.lit (.bool true)], args := [d1, d2, d3, d4] }
  | _ => none }
def gatesKeepRow : OpenClaim := { program := "ytabnimgpednhjab", sum := "8d7f2d615d0c20b354a947d14883cceadc0dae0b561b2da276a9e72bd70aacca", func := "latchwork/latchworklaw.GatesKeep", spec := "gatesKeep", unfollowed := true, recurses := true, plainKeys := false, apart := false }
def GatesKeepSaid : Prop := gatesKeepRow.holds Try.pinned (OpenSpec.ofChange gatesKeepSpec)

/-- ITS FALSE NEIGHBOUR: 'it returns false'. Refute it at one input. -/
def gatesKeepWrong : ChangeSpec := { name := "gatesKeep", fn := fun _ => fun
  | [d1, d2, d3, d4] => { results := [.lit (.bool false)], args := [d1, d2, d3, d4] }
  | _ => none }
def GatesKeepWrongFalsely : Prop := gatesKeepRow.holds Try.pinned (OpenSpec.ofChange gatesKeepWrong)

/-- 'latchworklaw.CnfOfs': WHATEVER THE INPUT: true; the input reads as it did. -/
def cnfOfsSpec : ChangeSpec := { name := "cnfOfs", fn := fun _ => fun
  | [d1, d2] => { results := [.lit (.bool true)], args := [d1, d2] }
  | _ => none }
def cnfOfsRow : OpenClaim := { program := "ytabnimgpednhjab", sum := "8d7f2d615d0c20b354a947d14883cceadc0dae0b561b2da276a9e72bd70aacca", func := "latchwork/latchworklaw.CnfOfs", spec := "cnfOfs", unfollowed := true, recurses := true, plainKeys := false, apart := false }
def CnfOfsSaid : Prop := cnfOfsRow.holds Try.pinned (OpenSpec.ofChange cnfOfsSpec)

/-- ITS FALSE NEIGHBOUR: 'it returns false'. Refute it at one input. -/
def cnfOfsWrong : ChangeSpec := { name := "cnfOfs", fn := fun _ => fun
  | [d1, d2] => { results := [.lit (.bool false)], args := [d1, d2] }
  | _ => none }
def CnfOfsWrongFalsely : Prop := cnfOfsRow.holds Try.pinned (OpenSpec.ofChange cnfOfsWrong)

/-- 'latchworklaw.CnfTells': WHATEVER THE INPUT: true; the input reads as it did. -/
def cnfTellsSpec : ChangeSpec := { name := "cnfTells", fn := fun _ => fun
  | [d1, d2, d3, d4] => { results := [.lit (.bool true)], args := [d1, d2, d3, d4] }
  | _ => none }
def cnfTellsRow : OpenClaim := { program := "ytabnimgpednhjab", sum := "8d7f2d615d0c20b354a947d14883cceadc0dae0b561b2da276a9e72bd70aacca", func := "latchwork/latchworklaw.CnfTells", spec := "cnfTells", unfollowed := true, recurses := true, plainKeys := false, apart := false }
def CnfTellsSaid : Prop := cnfTellsRow.holds Try.pinned (OpenSpec.ofChange cnfTellsSpec)

/-- ITS FALSE NEIGHBOUR: 'it returns false'. Refute it at one input. -/
def cnfTellsWrong : ChangeSpec := { name := "cnfTells", fn := fun _ => fun
  | [d1, d2, d3, d4] => { results := [.lit (.bool false)], args := [d1, d2, d3, d4] }
  | _ => none }
def CnfTellsWrongFalsely : Prop := cnfTellsRow.holds Try.pinned (OpenSpec.ofChange cnfTellsWrong)

/-- 'latchworklaw.ProofFollows': WHATEVER THE INPUT: true; the input reads as it did. -/
def proofFollowsSpec : ChangeSpec := { name := "proofFollows", fn := fun _ => fun
  | [d1, d2] => { results := [.lit (.bool true)], args := [d1, d2] }
  | _ => none }
def proofFollowsRow : OpenClaim := { program := "ytabnimgpednhjab", sum := "8d7f2d615d0c20b354a947d14883cceadc0dae0b561b2da276a9e72bd70aacca", func := "latchwork/latchworklaw.ProofFollows", spec := "proofFollows", unfollowed := true, recurses := true, plainKeys := false, apart := false }
def ProofFollowsSaid : Prop := proofFollowsRow.holds Try.pinned (OpenSpec.ofChange proofFollowsSpec)

/-- ITS FALSE NEIGHBOUR: 'it returns false'. Refute it at one input. -/
def proofFollowsWrong : ChangeSpec := { name := "proofFollows", fn := fun _ => fun
  | [d1, d2] => { results := [.lit (.bool false)], args := [d1, d2] }
  | _ => none }
def ProofFollowsWrongFalsely : Prop := proofFollowsRow.holds Try.pinned (OpenSpec.ofChange proofFollowsWrong)

/- THE SECOND FORM. 'bulk': how many values and letters a reading holds, each counted each time it is reached (what is shared counts as often as it is met; a slice's spare places count too). A statement '..UptoSaid' is the law's where the arguments, and the package variables that the reading takes, are together of bulk at most 1048576: NARROWER than '..Said'. Prove '..Said' where nothing that the law and all that it calls make is longer than what came in: it says more and counts as full. Else prove '..UptoSaid'. A law counts once. -/
mutual
def uptoBulk {H : Type} : DataW H → Nat
  | .lit (.string bytes) => bytes.length + 1
  | .lit _ => 1
  | .nil => 1
  | .ptr d => uptoBulk d + 1
  | .slice elems spare => uptoBulkAll elems + uptoBulkAll spare + 1
  | .agg parts => uptoBulkAll parts + 1
  | .iface _ d => uptoBulk d + 1
  | .map entries => uptoBulkEntries entries + 1
  | .held _ => 1
def uptoBulkAll {H : Type} : List (DataW H) → Nat
  | [] => 0
  | d :: r => uptoBulk d + uptoBulkAll r
def uptoBulkEntries {H : Type} : List (Lit × DataW H) → Nat
  | [] => 0
  | x :: r => uptoBulkEntry x + uptoBulkEntries r
def uptoBulkEntry {H : Type} : Lit × DataW H → Nat
  | (.string bytes, d) => bytes.length + uptoBulk d + 1
  | (_, d) => uptoBulk d + 1
 end
def uptoSmall : (H : Type) → List (DataW H) → Bool := fun _ ds => decide (uptoBulkAll ds ≤ 1048576)
def OpenSpec.upto (s : _root_.Go.ChangeSpec) : _root_.Go.OpenSpec := { _root_.Go.OpenSpec.ofChange s with cond := some uptoSmall }

/-- 'latchworklaw.GatesAnds', WHERE WHAT IT READS IS OF BULK AT MOST 1048576: true; the input reads as it did. -/
def gatesAndsUptoRow : OpenClaim := { program := "ytabnimgpednhjab", sum := "8d7f2d615d0c20b354a947d14883cceadc0dae0b561b2da276a9e72bd70aacca", func := "latchwork/latchworklaw.GatesAnds", spec := "gatesAnds", unfollowed := true, recurses := true, plainKeys := false, apart := false, narrowed := true }
def GatesAndsUptoSaid : Prop := gatesAndsUptoRow.holds Try.pinned (OpenSpec.upto gatesAndsSpec)

/-- 'latchworklaw.GatesEvals', WHERE WHAT IT READS IS OF BULK AT MOST 1048576: true; the input reads as it did. -/
def gatesEvalsUptoRow : OpenClaim := { program := "ytabnimgpednhjab", sum := "8d7f2d615d0c20b354a947d14883cceadc0dae0b561b2da276a9e72bd70aacca", func := "latchwork/latchworklaw.GatesEvals", spec := "gatesEvals", unfollowed := true, recurses := true, plainKeys := false, apart := false, narrowed := true }
def GatesEvalsUptoSaid : Prop := gatesEvalsUptoRow.holds Try.pinned (OpenSpec.upto gatesEvalsSpec)

/-- 'latchworklaw.GatesKeep', WHERE WHAT IT READS IS OF BULK AT MOST 1048576: true; the input reads as it did. -/
def gatesKeepUptoRow : OpenClaim := { program := "ytabnimgpednhjab", sum := "8d7f2d615d0c20b354a947d14883cceadc0dae0b561b2da276a9e72bd70aacca", func := "latchwork/latchworklaw.GatesKeep", spec := "gatesKeep", unfollowed := true, recurses := true, plainKeys := false, apart := false, narrowed := true }
def GatesKeepUptoSaid : Prop := gatesKeepUptoRow.holds Try.pinned (OpenSpec.upto gatesKeepSpec)

/-- 'latchworklaw.CnfOfs', WHERE WHAT IT READS IS OF BULK AT MOST 1048576: true; the input reads as it did. -/
def cnfOfsUptoRow : OpenClaim := { program := "ytabnimgpednhjab", sum := "8d7f2d615d0c20b354a947d14883cceadc0dae0b561b2da276a9e72bd70aacca", func := "latchwork/latchworklaw.CnfOfs", spec := "cnfOfs", unfollowed := true, recurses := true, plainKeys := false, apart := false, narrowed := true }
def CnfOfsUptoSaid : Prop := cnfOfsUptoRow.holds Try.pinned (OpenSpec.upto cnfOfsSpec)

/-- 'latchworklaw.CnfTells', WHERE WHAT IT READS IS OF BULK AT MOST 1048576: true; the input reads as it did. -/
def cnfTellsUptoRow : OpenClaim := { program := "ytabnimgpednhjab", sum := "8d7f2d615d0c20b354a947d14883cceadc0dae0b561b2da276a9e72bd70aacca", func := "latchwork/latchworklaw.CnfTells", spec := "cnfTells", unfollowed := true, recurses := true, plainKeys := false, apart := false, narrowed := true }
def CnfTellsUptoSaid : Prop := cnfTellsUptoRow.holds Try.pinned (OpenSpec.upto cnfTellsSpec)

/-- 'latchworklaw.ProofFollows', WHERE WHAT IT READS IS OF BULK AT MOST 1048576: true; the input reads as it did. -/
def proofFollowsUptoRow : OpenClaim := { program := "ytabnimgpednhjab", sum := "8d7f2d615d0c20b354a947d14883cceadc0dae0b561b2da276a9e72bd70aacca", func := "latchwork/latchworklaw.ProofFollows", spec := "proofFollows", unfollowed := true, recurses := true, plainKeys := false, apart := false, narrowed := true }
def ProofFollowsUptoSaid : Prop := proofFollowsUptoRow.holds Try.pinned (OpenSpec.upto proofFollowsSpec)

end Rows
end Go.Proofs.Ytabnimgpednhjab
