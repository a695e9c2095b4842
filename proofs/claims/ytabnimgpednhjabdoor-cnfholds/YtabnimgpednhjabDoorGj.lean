/- Gates: And. -/
import Derived.Test.YtabnimgpednhjabDoorGi
namespace Go.Proofs.YtabnimgpednhjabDoor
open Go.RowKit Go.Maps Go.WideMaps
set_option maxRecDepth 100000
set_option maxRecDepth 100000

/-- The And of two literals, the lesser one first: its literal, whether it could be made, and the graph's Ands then. -/
def makLit (ins : Int) (ps : List (Int × Int)) (a b : Int) : Int := if a = 0 ∨ a = turn b then 0 else if a = 1 ∨ a = b then b else addLit ins ps (a, b)
def makOk (ps : List (Int × Int)) (a b : Int) : Bool := if a = 0 ∨ a = turn b then true else if a = 1 ∨ a = b then true else addOk ps (a, b)
def makPs (ps : List (Int × Int)) (a b : Int) : List (Int × Int) := if a = 0 ∨ a = turn b then ps else if a = 1 ∨ a = b then ps else addPs ps (a, b)

theorem mak_no {ins : Int} {ps : List (Int × Int)} {a b : Int} (h : a = 0 ∨ a = turn b) : makLit ins ps a b = 0 ∧ makOk ps a b = true ∧ makPs ps a b = ps := by
  unfold makLit makOk makPs; rw [if_pos h, if_pos h, if_pos h]; exact ⟨rfl, rfl, rfl⟩
theorem mak_one {ins : Int} {ps : List (Int × Int)} {a b : Int} (h : ¬ (a = 0 ∨ a = turn b)) (h2 : a = 1 ∨ a = b) : makLit ins ps a b = b ∧ makOk ps a b = true ∧ makPs ps a b = ps := by
  unfold makLit makOk makPs; rw [if_neg h, if_neg h, if_neg h, if_pos h2, if_pos h2, if_pos h2]; exact ⟨rfl, rfl, rfl⟩
theorem mak_add {ins : Int} {ps : List (Int × Int)} {a b : Int} (h : ¬ (a = 0 ∨ a = turn b)) (h2 : ¬ (a = 1 ∨ a = b)) : makLit ins ps a b = addLit ins ps (a, b) ∧ makOk ps a b = addOk ps (a, b) ∧ makPs ps a b = addPs ps (a, b) := by
  unfold makLit makOk makPs; rw [if_neg h, if_neg h, if_neg h, if_neg h2, if_neg h2, if_neg h2]; exact ⟨rfl, rfl, rfl⟩

theorem turn_ne (x : Int) : x ≠ turn x := by unfold turn; split <;> omega

def andLit (ins : Int) (ps : List (Int × Int)) (a b : Int) : Int := makLit ins ps (min a b) (max a b)
def andOk (ps : List (Int × Int)) (a b : Int) : Bool := makOk ps (min a b) (max a b)
def andPs (ps : List (Int × Int)) (a b : Int) : List (Int × Int) := makPs ps (min a b) (max a b)

end Go.Proofs.YtabnimgpednhjabDoor
