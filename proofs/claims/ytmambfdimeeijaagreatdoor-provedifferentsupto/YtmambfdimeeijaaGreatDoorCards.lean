/-
  DERIVED. GIVEN WITH THE SEED: THE CARDS: each row of YtmambfdimeeijaaGreatDoorRows.lean that lists a variable, with what it lists TIED to the program's text (the seventh form; the later family's looks); each row that meets fmt, with fmt's text TOLD by the authors' own Lean function (tested against real Go, not proved from fmt's source: count such statements apart). THE CARD IS WHAT COUNTS. Prove the row's statement (the work); the ties are given (YtmambfdimeeijaaGreatDoorTie.lean); close each card by the builder's one call (the guide's Derived/Test/ToyasCard.lean, 'card_holds'). Laid BY PROGRAM, IN A SANDBOX (cutbox-door.mjs). By AI agents, Wed Nov 11 2026. No macro, syntax, notation, axiom, sorry.
-/
import Derived.Test.YtmambfdimeeijaaGreatDoorRows
import GoSem.ClaimSeven
namespace Go.Proofs.YtmambfdimeeijaaGreatDoor
namespace Rows

/-- THE TIED CARD OF 'latchworklaw.ProveDifferents'. -/
def proveDifferentsCard : Claim7 := { stood := { row := proveDifferentsRow, standIns := [], harness := (true, "50dc1607995fa6a6e3964e49c95624ddfa2322a26641a4f6a96494ae4a2872d1"), looks := true }, kinds := [], alts := [], laidByText := true, laidKinds := [.data, .data], laidTests := true, laidLooks := .later }
def ProveDifferentsCardSaid : Prop := Claim7.holds Tryz.pinned (.plain (OpenSpec.ofChange proveDifferentsSpec)) proveDifferentsCard

/-- THE SECOND FORM's CARD OF 'latchworklaw.ProveDifferents'. -/
def proveDifferentsUptoCard : Claim7 := { stood := { row := proveDifferentsUptoRow, standIns := [], harness := (true, "50dc1607995fa6a6e3964e49c95624ddfa2322a26641a4f6a96494ae4a2872d1"), looks := true }, kinds := [], alts := [], laidByText := true, laidKinds := [.data, .data], laidTests := true, laidLooks := .later }
def ProveDifferentsUptoCardSaid : Prop := Claim7.holds Tryz.pinned (.plain (OpenSpec.upto proveDifferentsSpec)) proveDifferentsUptoCard
end Rows
end Go.Proofs.YtmambfdimeeijaaGreatDoor
