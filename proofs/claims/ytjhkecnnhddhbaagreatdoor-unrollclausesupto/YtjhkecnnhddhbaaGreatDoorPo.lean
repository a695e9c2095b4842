/- One more who watches, behind a list that has room for it. -/
import Derived.Test.YtjhkecnnhddhbaaGreatDoorPn
import Derived.ArgAppend
namespace Go.Proofs.YtjhkecnnhddhbaaGreatDoor.Pf
open Go.RowKit Go.Maps Go.WideMaps
set_option maxRecDepth 100000
set_option autoImplicit false

theorem wpList_append_in (w : World) {ops : Array Oper} {rest : List Oper} {o : Oper} {a : Act} {Q : Exit → Act → World → Prop} (hg : o.guard = none) (s x : Operand) (hop : o.op = Op.call { callee := Callee.builtin Builtin.append, args := #[s, x], argTypes := #[230, 230] })
    (g len cap : Nat) (hs : a.eval s = .slice (some ⟨g, 0, none⟩) len cap) (ad : Addr) (m c : Nat) (news : List Value) (hx : a.eval x = .slice (some ad) m c) (hl : news.length = m * 2) (hnews : ∀ j u, news[j]? = some u → w.cell? (ad.add j) = some u) (h1 : ∀ u ∈ news, u.oneCell' = true)
    (hroom : len + m ≤ cap) (hc : ∀ j, j < news.length → (w.cell? ⟨g, len * 2 + j, none⟩).isSome = true) (hf : ∀ j, j < news.length → w.frozen? ⟨g, len * 2 + j, none⟩ = false)
    (hK : wpList Tryz.prog ops Q rest (a.put o.dst (.slice (some ⟨g, 0, none⟩) (len + m) cap)) (w.setCells g (len * 2) news)) : wpList Tryz.prog ops Q (o :: rest) a w := by
  obtain ⟨i0, hi, hz0, hz1, hz2⟩ := info_parts info120
  have hrun := run_append_room_cells (P := Tryz.prog) w 230 o.type 229 i0 Tryz.underlying230 hi g 0 len cap ad m c news (by rw [hz1]; exact hl) hnews h1 hroom (by rw [hz1]; simpa using hc) (by rw [hz1]; simpa using hf)
  rw [hz1, Nat.zero_add] at hrun
  refine wpList_plain hg fun K' hK' => ?_
  unfold Oper.wp
  simp [execOp, hop, resolve, invoke, builtin, hs, hx, hrun, Result.andThen]
  exact hK' _ _ hK
end Go.Proofs.YtjhkecnnhddhbaaGreatDoor.Pf
