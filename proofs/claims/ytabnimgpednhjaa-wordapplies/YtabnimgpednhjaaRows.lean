/-
  No cell of these rows narrows 'for every input' (looked for: loops, veiled, ifaces, maps, wideKeys, modest, calm, conditions, laid).
  DERIVED. THE GIVEN ROWS OF THIS SEAT. 8 by the template 'for every input the law returns true; each argument reads behind the call as it read before'; 0 by the template 'total and deterministic' (their statements: YtabnimgpednhjaaTotals.lean).
  GIVEN WITH THE SEED: the statements are not yours to turn. If you find one false, say at which input.
  Laid BY PROGRAM, IN A SANDBOX (cutbox-rows.mjs): the forced cells as the released guide's own fill.sh prints them over the translation 490d174d4d8c1b8d… (all of the seat's roots in one cut). By AI agents, Wed Nov 11 2026. No macro, syntax, notation, axiom, sorry.
-/
import Derived.Test.YtabnimgpednhjaaChecked
import GoSem.Claim
import GoSem.ClaimJoined
import GoSem.ClaimMapViews
import Derived.JoinedTies
import Derived.KernelRfl
namespace Go.Proofs.Ytabnimgpednhjaa
/- THE CELL 'sum', in the pinned program and in every row, IS THE sha256 OF THE DUMP (.gsa) THAT YtabnimgpednhjaaProg.lean LOADS. Nothing in Lean hashes anything: it is a label: what it is worth is what the hold of that sum in a sandbox is worth. -/
noncomputable def Try.pinned : Pinned := { name := "ytabnimgpednhjaa", sum := "490d174d4d8c1b8d0d017a0bda3817d8e3cfaa32707512bb6da3c2c245b526f3", checked := Try.checked }
namespace Rows
def none {H : Type} : Left H := { results := [], args := [] }

/-- 'latchworklaw.WordFits': WHATEVER THE INPUT: true; the input reads as it did. -/
def wordFitsSpec : ChangeSpec := { name := "wordFits", fn := fun _ => fun
  | [d1, d2, d3, d4] => { results := [.lit (.bool true)], args := [d1, d2, d3, d4] }
  | _ => none }
def wordFitsRow : OpenClaim := { program := "ytabnimgpednhjaa", sum := "490d174d4d8c1b8d0d017a0bda3817d8e3cfaa32707512bb6da3c2c245b526f3", func := "latchwork/latchworklaw.WordFits", spec := "wordFits", unfollowed := true, recurses := true, apart := false }
def WordFitsSaid : Prop := wordFitsRow.holds Try.pinned (OpenSpec.ofChange wordFitsSpec)

/-- ITS FALSE NEIGHBOUR: 'it returns false'. Refute it at one input. -/
def wordFitsWrong : ChangeSpec := { name := "wordFits", fn := fun _ => fun
  | [d1, d2, d3, d4] => { results := [.lit (.bool false)], args := [d1, d2, d3, d4] }
  | _ => none }
def WordFitsWrongFalsely : Prop := wordFitsRow.holds Try.pinned (OpenSpec.ofChange wordFitsWrong)

/-- 'latchworklaw.WordApplies': WHATEVER THE INPUT: true; the input reads as it did. -/
def wordAppliesSpec : ChangeSpec := { name := "wordApplies", fn := fun _ => fun
  | [d1, d2, d3, d4, d5] => { results := [.lit (.bool true)], args := [d1, d2, d3, d4, d5] }
  | _ => none }
def wordAppliesRow : OpenClaim := { program := "ytabnimgpednhjaa", sum := "490d174d4d8c1b8d0d017a0bda3817d8e3cfaa32707512bb6da3c2c245b526f3", func := "latchwork/latchworklaw.WordApplies", spec := "wordApplies", unfollowed := true, recurses := true, apart := false }
def WordAppliesSaid : Prop := wordAppliesRow.holds Try.pinned (OpenSpec.ofChange wordAppliesSpec)

/-- ITS FALSE NEIGHBOUR: 'it returns false'. Refute it at one input. -/
def wordAppliesWrong : ChangeSpec := { name := "wordApplies", fn := fun _ => fun
  | [d1, d2, d3, d4, d5] => { results := [.lit (.bool false)], args := [d1, d2, d3, d4, d5] }
  | _ => none }
def WordAppliesWrongFalsely : Prop := wordAppliesRow.holds Try.pinned (OpenSpec.ofChange wordAppliesWrong)

/-- 'latchworklaw.WordTurns': WHATEVER THE INPUT: true; the input reads as it did. -/
def wordTurnsSpec : ChangeSpec := { name := "wordTurns", fn := fun _ => fun
  | [d1, d2, d3] => { results := [.lit (.bool true)], args := [d1, d2, d3] }
  | _ => none }
def wordTurnsRow : OpenClaim := { program := "ytabnimgpednhjaa", sum := "490d174d4d8c1b8d0d017a0bda3817d8e3cfaa32707512bb6da3c2c245b526f3", func := "latchwork/latchworklaw.WordTurns", spec := "wordTurns", unfollowed := true, recurses := true, apart := false }
def WordTurnsSaid : Prop := wordTurnsRow.holds Try.pinned (OpenSpec.ofChange wordTurnsSpec)

/-- ITS FALSE NEIGHBOUR: 'it returns false'. Refute it at one input. -/
def wordTurnsWrong : ChangeSpec := { name := "wordTurns", fn := fun _ => fun
  | [d1, d2, d3] => { results := [.lit (.bool false)], args := [d1, d2, d3] }
  | _ => none }
def WordTurnsWrongFalsely : Prop := wordTurnsRow.holds Try.pinned (OpenSpec.ofChange wordTurnsWrong)

/-- 'latchworklaw.ModelChecks': WHATEVER THE INPUT: true; the input reads as it did. -/
def modelChecksSpec : ChangeSpec := { name := "modelChecks", fn := fun _ => fun
  | [d] => { results := [.lit (.bool true)], args := [d] }
  | _ => none }
def modelChecksRow : OpenClaim := { program := "ytabnimgpednhjaa", sum := "490d174d4d8c1b8d0d017a0bda3817d8e3cfaa32707512bb6da3c2c245b526f3", func := "latchwork/latchworklaw.ModelChecks", spec := "modelChecks", unfollowed := true, recurses := true, apart := false }
def ModelChecksSaid : Prop := modelChecksRow.holds Try.pinned (OpenSpec.ofChange modelChecksSpec)

/-- ITS FALSE NEIGHBOUR: 'it returns false'. Refute it at one input. -/
def modelChecksWrong : ChangeSpec := { name := "modelChecks", fn := fun _ => fun
  | [d] => { results := [.lit (.bool false)], args := [d] }
  | _ => none }
def ModelChecksWrongFalsely : Prop := modelChecksRow.holds Try.pinned (OpenSpec.ofChange modelChecksWrong)

/-- 'latchworklaw.ModelCones': WHATEVER THE INPUT: true; the input reads as it did. -/
def modelConesSpec : ChangeSpec := { name := "modelCones", fn := fun _ => fun
  | [d1, d2] => { results := [.lit (.bool true)], args := [d1, d2] }
  | _ => none }
def modelConesRow : OpenClaim := { program := "ytabnimgpednhjaa", sum := "490d174d4d8c1b8d0d017a0bda3817d8e3cfaa32707512bb6da3c2c245b526f3", func := "latchwork/latchworklaw.ModelCones", spec := "modelCones", unfollowed := true, recurses := true, apart := false }
def ModelConesSaid : Prop := modelConesRow.holds Try.pinned (OpenSpec.ofChange modelConesSpec)

/-- ITS FALSE NEIGHBOUR: 'it returns false'. Refute it at one input. -/
def modelConesWrong : ChangeSpec := { name := "modelCones", fn := fun _ => fun
  | [d1, d2] => { results := [.lit (.bool false)], args := [d1, d2] }
  | _ => none }
def ModelConesWrongFalsely : Prop := modelConesRow.holds Try.pinned (OpenSpec.ofChange modelConesWrong)

/-- 'latchworklaw.ModelAgain': WHATEVER THE INPUT: true; the input reads as it did. -/
def modelAgainSpec : ChangeSpec := { name := "modelAgain", fn := fun _ => fun
  | [d1, d2] => { results := [.lit (.bool true)], args := [d1, d2] }
  | _ => none }
def modelAgainRow : OpenClaim := { program := "ytabnimgpednhjaa", sum := "490d174d4d8c1b8d0d017a0bda3817d8e3cfaa32707512bb6da3c2c245b526f3", func := "latchwork/latchworklaw.ModelAgain", spec := "modelAgain", unfollowed := true, recurses := true, apart := false }
def ModelAgainSaid : Prop := modelAgainRow.holds Try.pinned (OpenSpec.ofChange modelAgainSpec)

/-- ITS FALSE NEIGHBOUR: 'it returns false'. Refute it at one input. -/
def modelAgainWrong : ChangeSpec := { name := "modelAgain", fn := fun _ => fun
  | [d1, d2] => { results := [.lit (.bool false)], args := [d1, d2] }
  | _ => none }
def ModelAgainWrongFalsely : Prop := modelAgainRow.holds Try.pinned (OpenSpec.ofChange modelAgainWrong)

/-- 'latchworklaw.EvalValues': WHATEVER THE INPUT: true; the input reads as it did. -/
def evalValuesSpec : ChangeSpec := { name := "evalValues", fn := fun _ => fun
  | [d1, d2, d3] => { results := [.lit (.bool true)], args := [d1, d2, d3] }
  | _ => none }
def evalValuesRow : OpenClaim := { program := "ytabnimgpednhjaa", sum := "490d174d4d8c1b8d0d017a0bda3817d8e3cfaa32707512bb6da3c2c245b526f3", func := "latchwork/latchworklaw.EvalValues", spec := "evalValues", unfollowed := true, recurses := true, apart := false }
def EvalValuesSaid : Prop := evalValuesRow.holds Try.pinned (OpenSpec.ofChange evalValuesSpec)

/-- ITS FALSE NEIGHBOUR: 'it returns false'. Refute it at one input. -/
def evalValuesWrong : ChangeSpec := { name := "evalValues", fn := fun _ => fun
  | [d1, d2, d3] => { results := [.lit (.bool false)], args := [d1, d2, d3] }
  | _ => none }
def EvalValuesWrongFalsely : Prop := evalValuesRow.holds Try.pinned (OpenSpec.ofChange evalValuesWrong)

/-- 'latchworklaw.EvalBegins': WHATEVER THE INPUT: true; the input reads as it did. -/
def evalBeginsSpec : ChangeSpec := { name := "evalBegins", fn := fun _ => fun
  | [d1, d2] => { results := [.lit (.bool true)], args := [d1, d2] }
  | _ => none }
def evalBeginsRow : OpenClaim := { program := "ytabnimgpednhjaa", sum := "490d174d4d8c1b8d0d017a0bda3817d8e3cfaa32707512bb6da3c2c245b526f3", func := "latchwork/latchworklaw.EvalBegins", spec := "evalBegins", unfollowed := true, recurses := true, apart := false }
def EvalBeginsSaid : Prop := evalBeginsRow.holds Try.pinned (OpenSpec.ofChange evalBeginsSpec)

/-- ITS FALSE NEIGHBOUR: 'it returns false'. Refute it at one input. -/
def evalBeginsWrong : ChangeSpec := { name := "evalBegins", fn := fun _ => fun
  | [d1, d2] => { results := [.lit (.bool false)], args := [d1, d2] }
  | _ => none }
def EvalBeginsWrongFalsely : Prop := evalBeginsRow.holds Try.pinned (OpenSpec.ofChange evalBeginsWrong)

/- THE SECOND FORM. 'bulk': how many values and letters a reading holds, each counted each time it is reached (what is shared counts as often as it is met; a slice's spare places count too). A statement '..UptoSaid' is the law's where the arguments, and the package variables that the reading takes, are together of bulk at most 1048576: NARROWER than '..Said'. Prove '..Said' where nothing that the law and all that it calls make is longer than what came in: it says more and counts as full. Else prove '..UptoSaid'. A law counts once. -/
mutual
def uptoBulk {H : Type} : DataW H → Nat
  | .lit (.string bytes) => bytes.length + 1
  | .lit _ => 1
  | .nil => 1
  | .ptr d => uptoBulk d + 1
  | .slice elems spare => uptoBulkAll elems + uptoBulkAll spare + 1
  | .agg parts => uptoBulkAll parts + 1
  | .iface _ d => uptoBulk d + 1
  | .map entries => uptoBulkEntries entries + 1
  | .held _ => 1
def uptoBulkAll {H : Type} : List (DataW H) → Nat
  | [] => 0
  | d :: r => uptoBulk d + uptoBulkAll r
def uptoBulkEntries {H : Type} : List (Lit × DataW H) → Nat
  | [] => 0
  | x :: r => uptoBulkEntry x + uptoBulkEntries r
def uptoBulkEntry {H : Type} : Lit × DataW H → Nat
  | (.string bytes, d) => bytes.length + uptoBulk d + 1
  | (_, d) => uptoBulk d + 1
 end
def uptoSmall : (H : Type) → List (DataW H) → Bool := fun _ ds => decide (uptoBulkAll ds ≤ 1048576)
def OpenSpec.upto (s : _root_.Go.ChangeSpec) : _root_.Go.OpenSpec := { _root_.Go.OpenSpec.ofChange s with cond := some uptoSmall }

/-- 'latchworklaw.WordFits', WHERE WHAT IT READS IS OF BULK AT MOST 1048576: true; the input reads as it did. -/
def wordFitsUptoRow : OpenClaim := { program := "ytabnimgpednhjaa", sum := "490d174d4d8c1b8d0d017a0bda3817d8e3cfaa32707512bb6da3c2c245b526f3", func := "latchwork/latchworklaw.WordFits", spec := "wordFits", unfollowed := true, recurses := true, apart := false, narrowed := true }
def WordFitsUptoSaid : Prop := wordFitsUptoRow.holds Try.pinned (OpenSpec.upto wordFitsSpec)

/-- 'latchworklaw.WordApplies', WHERE WHAT IT READS IS OF BULK AT MOST 1048576: true; the input reads as it did. -/
def wordAppliesUptoRow : OpenClaim := { program := "ytabnimgpednhjaa", sum := "490d174d4d8c1b8d0d017a0bda3817d8e3cfaa32707512bb6da3c2c245b526f3", func := "latchwork/latchworklaw.WordApplies", spec := "wordApplies", unfollowed := true, recurses := true, apart := false, narrowed := true }
def WordAppliesUptoSaid : Prop := wordAppliesUptoRow.holds Try.pinned (OpenSpec.upto wordAppliesSpec)

/-- 'latchworklaw.WordTurns', WHERE WHAT IT READS IS OF BULK AT MOST 1048576: true; the input reads as it did. -/
def wordTurnsUptoRow : OpenClaim := { program := "ytabnimgpednhjaa", sum := "490d174d4d8c1b8d0d017a0bda3817d8e3cfaa32707512bb6da3c2c245b526f3", func := "latchwork/latchworklaw.WordTurns", spec := "wordTurns", unfollowed := true, recurses := true, apart := false, narrowed := true }
def WordTurnsUptoSaid : Prop := wordTurnsUptoRow.holds Try.pinned (OpenSpec.upto wordTurnsSpec)

/-- 'latchworklaw.ModelChecks', WHERE WHAT IT READS IS OF BULK AT MOST 1048576: true; the input reads as it did. -/
def modelChecksUptoRow : OpenClaim := { program := "ytabnimgpednhjaa", sum := "490d174d4d8c1b8d0d017a0bda3817d8e3cfaa32707512bb6da3c2c245b526f3", func := "latchwork/latchworklaw.ModelChecks", spec := "modelChecks", unfollowed := true, recurses := true, apart := false, narrowed := true }
def ModelChecksUptoSaid : Prop := modelChecksUptoRow.holds Try.pinned (OpenSpec.upto modelChecksSpec)

/-- 'latchworklaw.ModelCones', WHERE WHAT IT READS IS OF BULK AT MOST 1048576: true; the input reads as it did. -/
def modelConesUptoRow : OpenClaim := { program := "ytabnimgpednhjaa", sum := "490d174d4d8c1b8d0d017a0bda3817d8e3cfaa32707512bb6da3c2c245b526f3", func := "latchwork/latchworklaw.ModelCones", spec := "modelCones", unfollowed := true, recurses := true, apart := false, narrowed := true }
def ModelConesUptoSaid : Prop := modelConesUptoRow.holds Try.pinned (OpenSpec.upto modelConesSpec)

/-- 'latchworklaw.ModelAgain', WHERE WHAT IT READS IS OF BULK AT MOST 1048576: true; the input reads as it did. -/
def modelAgainUptoRow : OpenClaim := { program := "ytabnimgpednhjaa", sum := "490d174d4d8c1b8d0d017a0bda3817d8e3cfaa32707512bb6da3c2c245b526f3", func := "latchwork/latchworklaw.ModelAgain", spec := "modelAgain", unfollowed := true, recurses := true, apart := false, narrowed := true }
def ModelAgainUptoSaid : Prop := modelAgainUptoRow.holds Try.pinned (OpenSpec.upto modelAgainSpec)

/-- 'latchworklaw.EvalValues', WHERE WHAT IT READS IS OF BULK AT MOST 1048576: true; the input reads as it did. -/
def evalValuesUptoRow : OpenClaim := { program := "ytabnimgpednhjaa", sum := "490d174d4d8c1b8d0d017a0bda3817d8e3cfaa32707512bb6da3c2c245b526f3", func := "latchwork/latchworklaw.EvalValues", spec := "evalValues", unfollowed := true, recurses := true, apart := false, narrowed := true }
def EvalValuesUptoSaid : Prop := evalValuesUptoRow.holds Try.pinned (OpenSpec.upto evalValuesSpec)

/-- 'latchworklaw.EvalBegins', WHERE WHAT IT READS IS OF BULK AT MOST 1048576: true; the input reads as it did. -/
def evalBeginsUptoRow : OpenClaim := { program := "ytabnimgpednhjaa", sum := "490d174d4d8c1b8d0d017a0bda3817d8e3cfaa32707512bb6da3c2c245b526f3", func := "latchwork/latchworklaw.EvalBegins", spec := "evalBegins", unfollowed := true, recurses := true, apart := false, narrowed := true }
def EvalBeginsUptoSaid : Prop := evalBeginsUptoRow.holds Try.pinned (OpenSpec.upto evalBeginsSpec)

end Rows
end Go.Proofs.Ytabnimgpednhjaa
