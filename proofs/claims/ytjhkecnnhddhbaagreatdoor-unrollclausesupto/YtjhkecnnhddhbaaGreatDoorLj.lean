/- What is written into a searcher. -/
import Derived.Test.YtjhkecnnhddhbaaGreatDoorLi
namespace Go.Proofs.YtjhkecnnhddhbaaGreatDoor.Sr
open Go.RowKit Go.Maps Go.Proofs.YtjhkecnnhddhbaaGreatDoor.Pf
set_option maxRecDepth 100000
set_option autoImplicit false

section
variable {base : Nat} {w : World} {s : Nat} {XB XQ : Nat → Prop} {R nS nW q gp gw gm gl : Nat} {vh vl vp : Value} {S : Sx}
theorem Ser.sm (h : Ser base w s XB XQ R nS nW q gp gw gm gl vh vl vp S) : s ≠ gm := by
  rintro rfl
  have h1 := h.ma
  rw [h.bk] at h1
  injection h1 with h1
  injection h1 with _ h2
  exact absurd h2 (by decide)
/-- A mark is set. -/
theorem Ser.setM (h : Ser base w s XB XQ R nS nW q gp gw gm gl vh vl vp S) (a : Nat) (x : Int) : Ser base (w.setCell ⟨gm, a, none⟩ (.int .i64 x)) s XB XQ R nS nW q gp gw gm gl vh vl vp { S with marks := S.marks.set a x } := by
  have hset : ∀ k, k ≠ gm → (w.setCell ⟨gm, a, none⟩ (.int .i64 x)).heap[k]? = w.heap[k]? := fun k hk => heap_setCell_other _ _ _ _ (by simpa using hk)
  refine ⟨?_, BdAt.apart h.bd (by simp) fun g hg => hset g fun e => h.mb (e ▸ hg), h.qu.far (by simp) fun g hg => hset g fun e => h.mq (e ▸ hg), ?_, (hset gl h.ml.symm).trans h.ln, h.bq, h.sb, h.sq, h.mb, h.mq, h.lb, h.lq, h.ml, h.bx, h.qx, h.sx, h.mx, h.lx⟩
  · rw [hset s h.sm, h.bk]
    simp
  · rw [heap_setCell_same _ _ _ _ _ _ h.ma, map_set]
/-- A field of the searcher's own is written. -/
theorem Ser.own (h : Ser base w s XB XQ R nS nW q gp gw gm gl vh vl vp S) {k : Nat} {u vp' : Value} {S' : Sx} (hB : S'.B = S.B) (hQ : S'.Q = S.Q) (hm : S'.marks = S.marks) (hl : S'.lean = S.lean)
    (hbk : (w.setCell ⟨s, k, none⟩ u).heap[s]? = some (.cells #[.pointer (some ⟨R, 0, none⟩), .pointer (some ⟨q, 0, none⟩), .int .i64 S'.V, vl, .int .i64 S'.most, vp', .int .i64 S'.lessons, .slice (some ⟨gm, 0, none⟩) S'.marks.length S'.marks.length, .slice (some ⟨gl, 0, none⟩) S'.lean.length S'.lean.length, .int .i64 S'.round, .int .i64 S'.left] 204 (0, 0))) :
    Ser base (w.setCell ⟨s, k, none⟩ u) s XB XQ R nS nW q gp gw gm gl vh vl vp' S' := by
  have hset : ∀ j, j ≠ s → (w.setCell ⟨s, k, none⟩ u).heap[j]? = w.heap[j]? := fun j hj => heap_setCell_other _ _ _ _ (by simpa using hj)
  exact ⟨hbk, by rw [hB]; exact BdAt.apart h.bd (by simp) fun g hg => hset g fun e => h.sb (e ▸ hg), by rw [hQ]; exact h.qu.far (by simp) fun g hg => hset g fun e => h.sq (e ▸ hg), by rw [hm]; exact (hset gm h.sm.symm).trans h.ma, by rw [hl]; exact (hset gl h.sl.symm).trans h.ln, h.bq, h.sb, h.sq, h.mb, h.mq, h.lb, h.lq, h.ml, h.bx, h.qx, h.sx, h.mx, h.lx⟩
theorem Ser.setLessons (h : Ser base w s XB XQ R nS nW q gp gw gm gl vh vl vp S) (x : Int) : Ser base (w.setCell ⟨s, 6, none⟩ (.int .i64 x)) s XB XQ R nS nW q gp gw gm gl vh vl vp { S with lessons := x } :=
  h.own rfl rfl rfl rfl (by rw [heap_setCell_same _ _ _ _ _ _ h.bk]; rfl)
theorem Ser.setProof (h : Ser base w s XB XQ R nS nW q gp gw gm gl vh vl vp S) (v : Value) : Ser base (w.setCell ⟨s, 5, none⟩ v) s XB XQ R nS nW q gp gw gm gl vh vl v S :=
  h.own rfl rfl rfl rfl (by rw [heap_setCell_same _ _ _ _ _ _ h.bk]; rfl)
theorem Ser.setRound (h : Ser base w s XB XQ R nS nW q gp gw gm gl vh vl vp S) (x : Int) : Ser base (w.setCell ⟨s, 9, none⟩ (.int .i64 x)) s XB XQ R nS nW q gp gw gm gl vh vl vp { S with round := x } :=
  h.own rfl rfl rfl rfl (by rw [heap_setCell_same _ _ _ _ _ _ h.bk]; rfl)
theorem Ser.setLeft (h : Ser base w s XB XQ R nS nW q gp gw gm gl vh vl vp S) (x : Int) : Ser base (w.setCell ⟨s, 10, none⟩ (.int .i64 x)) s XB XQ R nS nW q gp gw gm gl vh vl vp { S with left := x } :=
  h.own rfl rfl rfl rfl (by rw [heap_setCell_same _ _ _ _ _ _ h.bk]; rfl)
end
end Go.Proofs.YtjhkecnnhddhbaaGreatDoor.Sr
