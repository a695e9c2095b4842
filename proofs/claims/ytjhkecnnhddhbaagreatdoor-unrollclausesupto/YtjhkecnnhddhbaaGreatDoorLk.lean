/- A searcher's board: its work is counted. -/
import Derived.Test.YtjhkecnnhddhbaaGreatDoorLj
namespace Go.Proofs.YtjhkecnnhddhbaaGreatDoor.Sr
open Go.RowKit Go.Maps Go.Proofs.YtjhkecnnhddhbaaGreatDoor.Pf
set_option maxRecDepth 100000
set_option autoImplicit false

theorem BdAt.work {w : World} {X : Nat → Prop} {R nS nW : Nat} {B : Bd} (h : BdAt w X R nS nW B) (x : Int) : BdAt (w.setCell ⟨R, 4, none⟩ (.int .i64 x)) X R nS nW B ∧ X R ∧ (∃ wk, w.cell? ⟨R, 4, none⟩ = some (.int .i64 wk)) ∧ w.frozen? ⟨R, 4, none⟩ = false := by
  obtain ⟨S, W, vc, vs, wk, cg, cc, wv, h⟩ := h
  refine ⟨⟨S, W, vc, vs, x, cg, cc, wv, ?_⟩, h.xr, ⟨wk, h.c4⟩, h.fz 4⟩
  exact h.board ((Below.refl 0 w).setCell (Nat.zero_le _) _).size (fun g hg => Below.heap_setCell _ _ _ _ hg) B.level B.lost B.spread x (by rw [heap_setCell_same _ _ _ _ _ _ h.bd]; rfl)
section
variable {base : Nat} {w : World} {s : Nat} {XB XQ : Nat → Prop} {R nS nW q gp gw gm gl : Nat} {vh vl vp : Value} {S : Sx}
theorem Ser.work (h : Ser base w s XB XQ R nS nW q gp gw gm gl vh vl vp S) (x : Int) : Ser base (w.setCell ⟨R, 4, none⟩ (.int .i64 x)) s XB XQ R nS nW q gp gw gm gl vh vl vp S :=
  h.board (BdAt.work h.bd x).1 (Fr.set (q := ⟨R, 4, none⟩) (BdAt.work h.bd x).2.1 _)
end
end Go.Proofs.YtjhkecnnhddhbaaGreatDoor.Sr
