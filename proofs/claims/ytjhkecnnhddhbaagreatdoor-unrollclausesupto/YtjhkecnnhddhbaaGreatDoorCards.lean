/-
  DERIVED. GIVEN WITH THE SEED: THE CARDS: each row of YtjhkecnnhddhbaaGreatDoorRows.lean that lists a variable, with what it lists TIED to the program's text (the seventh form; the later family's looks); each row that meets fmt, with fmt's text TOLD by the authors' own Lean function (tested against real Go, not proved from fmt's source: count such statements apart). THE CARD IS WHAT COUNTS. Prove the row's statement (the work); the ties are given (YtjhkecnnhddhbaaGreatDoorTie.lean); close each card by the builder's one call (the guide's Derived/Test/ToyasCard.lean, 'card_holds'). Laid BY PROGRAM, IN A SANDBOX (cutbox-door.mjs). By AI agents, Wed Nov 11 2026. No macro, syntax, notation, axiom, sorry.
-/
import Derived.Test.YtjhkecnnhddhbaaGreatDoorRows
import GoSem.ClaimSeven
namespace Go.Proofs.YtjhkecnnhddhbaaGreatDoor
namespace Rows

/-- THE TIED CARD OF 'latchworklaw.UnrollClauses'. -/
def unrollClausesCard : Claim7 := { stood := { row := unrollClausesRow, standIns := [], harness := (true, "8b1437fc7d12a40348cd040e555b15bfe241ecf1457adb1e88bf6054b5e3cef4"), looks := true }, kinds := [], alts := [], laidByText := true, laidKinds := [.data, .data], laidTests := true, laidLooks := .later }
def UnrollClausesCardSaid : Prop := Claim7.holds Tryz.pinned (.plain (OpenSpec.ofChange unrollClausesSpec)) unrollClausesCard

/-- THE SECOND FORM's CARD OF 'latchworklaw.UnrollClauses'. -/
def unrollClausesUptoCard : Claim7 := { stood := { row := unrollClausesUptoRow, standIns := [], harness := (true, "8b1437fc7d12a40348cd040e555b15bfe241ecf1457adb1e88bf6054b5e3cef4"), looks := true }, kinds := [], alts := [], laidByText := true, laidKinds := [.data, .data], laidTests := true, laidLooks := .later }
def UnrollClausesUptoCardSaid : Prop := Claim7.holds Tryz.pinned (.plain (OpenSpec.upto unrollClausesSpec)) unrollClausesUptoCard
end Rows
end Go.Proofs.YtjhkecnnhddhbaaGreatDoor
