/-
  DERIVED. GIVEN WITH THE SEED: THE CARDS: each row of YtfobcnhibhbbaaaGreatDoorRows.lean that lists a variable, with what it lists TIED to the program's text (the seventh form; the later family's looks); each row that meets fmt, with fmt's text TOLD by the authors' own Lean function (tested against real Go, not proved from fmt's source: count such statements apart). THE CARD IS WHAT COUNTS. Prove the row's statement (the work); the ties are given (YtfobcnhibhbbaaaGreatDoorTie.lean); close each card by the builder's one call (the guide's Derived/Test/ToyasCard.lean, 'card_holds'). Laid BY PROGRAM, IN A SANDBOX (cutbox-door.mjs). By AI agents, Wed Nov 11 2026. No macro, syntax, notation, axiom, sorry.
-/
import Derived.Test.YtfobcnhibhbbaaaGreatDoorRows
import GoSem.ClaimSeven
namespace Go.Proofs.YtfobcnhibhbbaaaGreatDoor
namespace Rows

/-- THE TIED CARD OF 'latchworklaw.ExploreFinds'. -/
def exploreFindsCard : Claim7 := { stood := { row := exploreFindsRow, standIns := [], harness := (true, "d083259974e829672b4acb4b0ef38ab4dc12e036d7025746e7f4de8577d26aaa"), looks := false }, kinds := [], alts := [], laidByText := true, laidKinds := [.data, .data, .data, .data, .pinned], laidTests := true, laidLooks := .later }
def ExploreFindsCardSaid : Prop := Claim7.holds Tryz.pinned (.plain (OpenSpec.ofChange exploreFindsSpec)) exploreFindsCard

/-- THE SECOND FORM's CARD OF 'latchworklaw.ExploreFinds'. -/
def exploreFindsUptoCard : Claim7 := { stood := { row := exploreFindsUptoRow, standIns := [], harness := (true, "d083259974e829672b4acb4b0ef38ab4dc12e036d7025746e7f4de8577d26aaa"), looks := false }, kinds := [], alts := [], laidByText := true, laidKinds := [.data, .data, .data, .data, .pinned], laidTests := true, laidLooks := .later }
def ExploreFindsUptoCardSaid : Prop := Claim7.holds Tryz.pinned (.plain (OpenSpec.upto exploreFindsSpec)) exploreFindsUptoCard
end Rows
end Go.Proofs.YtfobcnhibhbbaaaGreatDoor
