/- The trace that must be in any case, printed and parsed. -/
import Derived.Test.YtncjgccecodleabGreatDoorHs
namespace Go.Proofs.YtncjgccecodleabGreatDoor
open Go.RowKit
set_option maxRecDepth 100000

def tgText : ByteArray := ⟨#[115, 116, 97, 114, 116, 32, 48, 10, 105, 110, 10, 105, 110, 10]⟩
theorem tg_parse : parseF tgText = some ([0], [[], []]) := by kernel_rfl
def tgRow (b : Nat) : Row := ⟨some ⟨b, 0, none⟩, [0], 1⟩
def nilRow : Row := ⟨none, [], 0⟩
theorem tg_fit (b : Nat) : fitE (tgRow b) [nilRow, nilRow] = 0 := by simp [fitE, tgRow, nilRow, longB, farB]
theorem tg_print (b : Nat) : printT (tgRow b) [nilRow, nilRow] = [115, 116, 97, 114, 116, 32, 48, 10, 105, 110, 10, 105, 110, 10] := by
  show printT ⟨none, [0], 1⟩ [nilRow, nilRow] = _
  kernel_rfl
end Go.Proofs.YtncjgccecodleabGreatDoor
