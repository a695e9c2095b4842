/- The plain texts of steps: a clause is added to what is gathered; the circuit beside it. -/
import Derived.Test.YtjhkecnnhddhbaaGreatDoorTj
namespace Go.Proofs.YtjhkecnnhddhbaaGreatDoor
open Go.RowKit Go.Maps Go.WideMaps
set_option maxRecDepth 100000
set_option autoImplicit false

/-- The circuit, how many variables a step takes and the result's block, ahead of what is gathered. -/
structure Fx (w w1 : World) (B G F M : Nat) (C : Ci) (last : Nat) : Prop where
  ok : COk w C last
  b : Below w.heap.size w w1
  wM : w.heap.size ≤ M
  x0 : w1.cell? ⟨B, 0, none⟩ = some (.int .i64 C.ins)
  x1 : w1.cell? ⟨B, 1, none⟩ = some (.slice C.p C.ps.length C.cap)
  x2 : w1.cell? ⟨B, 2, none⟩ = some (.int .i64 C.a)
  x3 : w1.cell? ⟨B, 3, none⟩ = some (.int .i64 C.s)
  x4 : w1.cell? ⟨B, 4, none⟩ = some (.slice C.i.at' C.i.ns.length C.i.cap)
  x5 : w1.cell? ⟨B, 5, none⟩ = some (.slice C.n.at' C.n.ns.length C.n.cap)
  x6 : w1.cell? ⟨B, 6, none⟩ = some (.slice C.b.at' C.b.ns.length C.b.cap)
  x7 : w1.cell? ⟨B, 7, none⟩ = some (.slice C.h.at' C.h.ns.length C.h.cap)
  xf : w1.cell? ⟨F, 0, none⟩ = some (.int .i64 C.f)
  g : w1.heap[G]? = some (.cells #[.int .i64 0, .slice none 0 0] 30)
  hB : B < M
  hF : F < M
  hG : G < M
  wG : w.heap.size ≤ G
/-- The same, in a later world. -/
structure Fy (wr : World) (B F : Nat) (C : Ci) : Prop where
  at' : CirAt wr C.p C.ps C.i C.n C.b C.h
  x0 : wr.cell? ⟨B, 0, none⟩ = some (.int .i64 C.ins)
  x1 : wr.cell? ⟨B, 1, none⟩ = some (.slice C.p C.ps.length C.cap)
  x2 : wr.cell? ⟨B, 2, none⟩ = some (.int .i64 C.a)
  x3 : wr.cell? ⟨B, 3, none⟩ = some (.int .i64 C.s)
  x4 : wr.cell? ⟨B, 4, none⟩ = some (.slice C.i.at' C.i.ns.length C.i.cap)
  x5 : wr.cell? ⟨B, 5, none⟩ = some (.slice C.n.at' C.n.ns.length C.n.cap)
  x6 : wr.cell? ⟨B, 6, none⟩ = some (.slice C.b.at' C.b.ns.length C.b.cap)
  x7 : wr.cell? ⟨B, 7, none⟩ = some (.slice C.h.at' C.h.ns.length C.h.cap)
  xf : wr.cell? ⟨F, 0, none⟩ = some (.int .i64 C.f)
theorem Fx.at {w w1 wr : World} {B G F M : Nat} {C : Ci} {last : Nat} (h : Fx w w1 B G F M C last) (hb : Below M w1 wr) : Fy wr B F C := by
  have c : ∀ {q : Addr} {x : Value}, w1.cell? q = some x → q.block < M → wr.cell? q = some x := fun hq hl => blk_cell hq (hb.block _ hl)
  exact ⟨h.ok.at'.later (h.b.trans (hb.mono h.wM)), c h.x0 h.hB, c h.x1 h.hB, c h.x2 h.hB, c h.x3 h.hB, c h.x4 h.hB, c h.x5 h.hB, c h.x6 h.hB, c h.x7 h.hB, c h.xf h.hF⟩
theorem Fy.later {wr w2 : World} {B F : Nat} {C : Ci} (h : Fy wr B F C) (hb : Below wr.heap.size wr w2) : Fy w2 B F C :=
  ⟨h.at'.later hb, cell_later hb h.x0, cell_later hb h.x1, cell_later hb h.x2, cell_later hb h.x3, cell_later hb h.x4, cell_later hb h.x5, cell_later hb h.x6, cell_later hb h.x7, cell_later hb h.xf⟩
/-- A clause that lies in a new block is added. -/
theorem addS_any {w1 wr : World} {M : Nat} {V : Int} {L : List (List Int)} (h : Sc w1 wr M V L) (hL : L.length ≤ 1000000000) (l : List Int) (c : Nat) (o : Obj) (hI : IntsAt (wr.alloc o) (some ⟨wr.heap.size, 0, none⟩) l) :
    Calls Tryz.prog 23 #[.slice (some ⟨wr.heap.size, 0, none⟩) l.length c, .pointer (some ⟨M, 0, none⟩)] (wr.alloc o) fun e w' => e = .returned (.tuple #[]) ∧ Sc w1 w' M V (L ++ [l]) := by
  have hM := h.lt
  obtain ⟨v, rs, hn, hc, hb⟩ := h
  have hal : Below wr.heap.size wr (wr.alloc o) := bal (Below.refl _ _) o
  refine (addP_any M M v V rs (by rw [← numsOf_len, hn]; exact hL) l _ c _ (by simp; omega) (hc.below hal) hI (fun a ha => ?_)).mono ?_
  · cases ha
    refine ⟨by simp; omega, fun e => ?_, by simp, by simp; omega⟩
    have := (hc.row.lt _ e).2
    simp at this
  · rintro e w' ⟨rfl, v', r, hr, hc', hb', _⟩
    exact ⟨rfl, v', rs ++ [r], by rw [numsOf_app, hn, hr], hc', (hb.trans (hal.mono (Nat.le_of_lt hM))).trans hb'⟩
theorem addS_one {w1 wr : World} {M : Nat} {V : Int} {L : List (List Int)} (h : Sc w1 wr M V L) (hL : L.length ≤ 1000000000) (x : Int) :
    Calls Tryz.prog 23 #[.slice (some ⟨wr.heap.size, 0, none⟩) 1 1, .pointer (some ⟨M, 0, none⟩)] (wr.alloc (.cells #[.int .i64 x] 3)) fun e w' => e = .returned (.tuple #[]) ∧ Sc w1 w' M V (L ++ [[x]]) :=
  addS_any h hL [x] 1 _ (ints_one x)
theorem addS_two {w1 wr : World} {M : Nat} {V : Int} {L : List (List Int)} (h : Sc w1 wr M V L) (hL : L.length ≤ 1000000000) (x y : Int) :
    Calls Tryz.prog 23 #[.slice (some ⟨wr.heap.size, 0, none⟩) 2 2, .pointer (some ⟨M, 0, none⟩)] (wr.alloc (.cells #[.int .i64 x, .int .i64 y] 3)) fun e w' => e = .returned (.tuple #[]) ∧ Sc w1 w' M V (L ++ [[x, y]]) :=
  addS_any h hL [x, y] 2 _ (ints_two x y)
/-- A bit's number. -/
theorem bitS_any {wr : World} {B F : Nat} {C : Ci} (h : Fy wr B F C) (t i : Nat) (ht0 : 0 ≤ (t : Int) * C.f) (ht : (t : Int) * C.f ≤ 200000) (ha : 0 ≤ C.a) (ha2 : C.a ≤ 1000) (hi : i ≤ 1000) :
    Calls Tryz.prog 24 #[.int .i64 t, .int .i64 i, .pointer (some ⟨F, 0, none⟩), .pointer (some ⟨B, 0, none⟩)] wr fun e w' => e = .returned (.int .i64 (t * C.f + 1 + C.a + i)) ∧ w' = wr :=
  bit_any C.f C.a t i ht0 (by omega) ha ha2 hi F B wr h.xf h.x2
end Go.Proofs.YtjhkecnnhddhbaaGreatDoor
