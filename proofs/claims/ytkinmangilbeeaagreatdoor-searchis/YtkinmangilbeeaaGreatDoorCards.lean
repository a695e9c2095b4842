/-
  DERIVED. GIVEN WITH THE SEED: THE CARDS: each row of YtkinmangilbeeaaGreatDoorRows.lean that lists a variable, with what it lists TIED to the program's text (the seventh form; the later family's looks); each row that meets fmt, with fmt's text TOLD by the authors' own Lean function (tested against real Go, not proved from fmt's source: count such statements apart). THE CARD IS WHAT COUNTS. Prove the row's statement (the work); the ties are given (YtkinmangilbeeaaGreatDoorTie.lean); close each card by the builder's one call (the guide's Derived/Test/ToyasCard.lean, 'card_holds'). Laid BY PROGRAM, IN A SANDBOX (cutbox-door.mjs). By AI agents, Wed Nov 11 2026. No macro, syntax, notation, axiom, sorry.
-/
import Derived.Test.YtkinmangilbeeaaGreatDoorRows
import GoSem.ClaimSeven
namespace Go.Proofs.YtkinmangilbeeaaGreatDoor
namespace Rows

/-- THE TIED CARD OF 'latchworklaw.SearchIs'. -/
def searchIsCard : Claim7 := { stood := { row := searchIsRow, standIns := [], harness := (true, "5a6e2c852097221326906cd4ccbe7465be5f6da3cea4c07a73f63b1f5bb3f0c2"), looks := true }, kinds := [], alts := [], laidByText := true, laidKinds := [.data, .data], laidTests := true, laidLooks := .later }
def SearchIsCardSaid : Prop := Claim7.holds Tryz.pinned (.plain (OpenSpec.ofChange searchIsSpec)) searchIsCard

/-- THE SECOND FORM's CARD OF 'latchworklaw.SearchIs'. -/
def searchIsUptoCard : Claim7 := { stood := { row := searchIsUptoRow, standIns := [], harness := (true, "5a6e2c852097221326906cd4ccbe7465be5f6da3cea4c07a73f63b1f5bb3f0c2"), looks := true }, kinds := [], alts := [], laidByText := true, laidKinds := [.data, .data], laidTests := true, laidLooks := .later }
def SearchIsUptoCardSaid : Prop := Claim7.holds Tryz.pinned (.plain (OpenSpec.upto searchIsSpec)) searchIsUptoCard
end Rows
end Go.Proofs.YtkinmangilbeeaaGreatDoor
