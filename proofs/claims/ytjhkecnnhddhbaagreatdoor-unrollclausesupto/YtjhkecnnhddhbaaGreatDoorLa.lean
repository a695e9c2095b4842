/- A searcher in memory. -/
import Derived.Test.YtjhkecnnhddhbaaGreatDoorJh
import Derived.Test.YtjhkecnnhddhbaaGreatDoorPt
namespace Go.Proofs.YtjhkecnnhddhbaaGreatDoor.Sr
open Go.RowKit Go.Maps Go.Proofs.YtjhkecnnhddhbaaGreatDoor.Pf
set_option maxRecDepth 100000
set_option autoImplicit false

theorem BdAt.apart {w w1 : World} {X : Nat → Prop} {R nS nW : Nat} {B : Bd} (h : BdAt w X R nS nW B) (hs : w.heap.size ≤ w1.heap.size) (hb : ∀ g, X g → w1.heap[g]? = w.heap[g]?) : BdAt w1 X R nS nW B := by
  obtain ⟨S, W, vc, vs, wk, cg, cc, wv, h⟩ := h
  exact ⟨S, W, vc, vs, wk, cg, cc, wv, h.apart hs hb⟩
theorem BdAt.xb {w : World} {X : Nat → Prop} {R nS nW : Nat} {B : Bd} (h : BdAt w X R nS nW B) : ∀ g, X g → g < w.heap.size := by
  obtain ⟨S, W, vc, vs, wk, cg, cc, wv, h⟩ := h
  exact h.xb
theorem isSoB {w : World} {X : Nat → Prop} {R nS nW : Nat} {B : Bd} (h : BdAt w X R nS nW B) (x : Int) (hx : Small x) :
    Calls Tryz.prog 203 #[.pointer (some ⟨R, 0, none⟩), .int .i64 x] w fun e w' => e = .returned (.bool (decide (x ∈ B.st))) ∧ w' = w := by
  obtain ⟨S, W, vc, vs, wk, cg, cc, wv, h⟩ := h
  exact isSo_any R S nS B.st x hx w h.c5 h.so
theorem isNotB {w : World} {X : Nat → Prop} {R nS nW : Nat} {B : Bd} (h : BdAt w X R nS nW B) (x : Int) (hx : Small x) :
    Calls Tryz.prog 204 #[.pointer (some ⟨R, 0, none⟩), .int .i64 x] w fun e w' => e = .returned (.bool (decide (-x ∈ B.st))) ∧ w' = w := by
  obtain ⟨S, W, vc, vs, wk, cg, cc, wv, h⟩ := h
  exact isNot_any R S nS B.st x hx w h.c5 h.so
theorem chooseB {w : World} {X : Nat → Prop} {R nS nW : Nat} {B : Bd} (h : BdAt w X R nS nW B) (n : Int) (hn : Small n) (hno : n ∉ B.st) (hl : B.sp.length ≤ 1000000) (hnS : nS ≤ 1000000000000000) (hlv : 0 ≤ B.level ∧ B.level ≤ 1000000) :
    Calls Tryz.prog 205 #[.pointer (some ⟨R, 0, none⟩), .int .i64 n] w fun e w' => e = .returned (.tuple #[]) ∧ ∃ X', BdAt w' X' R (nS + 1) nW (B.choose n) ∧ Fr X w w' X' := by
  obtain ⟨S, W, vc, vs, wk, cg, cc, wv, h⟩ := h
  refine (choose_any w X R S W nS nW vc vs wk cg cc wv B h n hn hno hl hnS hlv).mono ?_
  rintro e w' ⟨rfl, X', vs', wk', hM, hF⟩
  exact ⟨rfl, X', ⟨S, W, vc, vs', wk', cg, cc, wv, hM⟩, hF⟩
/-- A searcher: its board, its queue, and what else it keeps. -/
structure Sx where
  B : Bd
  Q : Qu
  V : Nat
  most : Int
  lessons : Int
  marks : List Int
  lean : List Int
  round : Int
  left : Int
/-- Where a searcher lies. -/
structure Ser (base : Nat) (w : World) (s : Nat) (XB XQ : Nat → Prop) (R nS nW q gp gw gm gl : Nat) (vh vl vp : Value) (S : Sx) : Prop where
  bk : w.heap[s]? = some (.cells #[.pointer (some ⟨R, 0, none⟩), .pointer (some ⟨q, 0, none⟩), .int .i64 S.V, vl, .int .i64 S.most, vp, .int .i64 S.lessons, .slice (some ⟨gm, 0, none⟩) S.marks.length S.marks.length, .slice (some ⟨gl, 0, none⟩) S.lean.length S.lean.length, .int .i64 S.round, .int .i64 S.left] 204 (0, 0))
  bd : BdAt w XB R nS nW S.B
  qu : Qm w XQ q gp gw vh S.Q
  ma : w.heap[gm]? = some (.cells (S.marks.map (Value.int .i64)).toArray 3 (0, 0))
  ln : w.heap[gl]? = some (.cells (S.lean.map (Value.int .i64)).toArray 3 (0, 0))
  bq : ∀ g, XB g → ¬ XQ g
  sb : ¬ XB s
  sq : ¬ XQ s
  mb : ¬ XB gm
  mq : ¬ XQ gm
  lb : ¬ XB gl
  lq : ¬ XQ gl
  ml : gm ≠ gl
  bx : ∀ g, XB g → base ≤ g
  qx : ∀ g, XQ g → base ≤ g
  sx : base ≤ s
  mx : base ≤ gm
  lx : base ≤ gl
section
variable {base : Nat} {w : World} {s : Nat} {XB XQ : Nat → Prop} {R nS nW q gp gw gm gl : Nat} {vh vl vp : Value} {S : Sx}
theorem Ser.s0 (h : Ser base w s XB XQ R nS nW q gp gw gm gl vh vl vp S) : w.cell? ⟨s, 0, none⟩ = some (.pointer (some ⟨R, 0, none⟩)) := by rw [Lib.cell_of_heap h.bk]; rfl
theorem Ser.s1 (h : Ser base w s XB XQ R nS nW q gp gw gm gl vh vl vp S) : w.cell? ⟨s, 1, none⟩ = some (.pointer (some ⟨q, 0, none⟩)) := by rw [Lib.cell_of_heap h.bk]; rfl
theorem Ser.s2 (h : Ser base w s XB XQ R nS nW q gp gw gm gl vh vl vp S) : w.cell? ⟨s, 2, none⟩ = some (.int .i64 S.V) := by rw [Lib.cell_of_heap h.bk]; rfl
theorem Ser.s3 (h : Ser base w s XB XQ R nS nW q gp gw gm gl vh vl vp S) : w.cell? ⟨s, 3, none⟩ = some vl := by rw [Lib.cell_of_heap h.bk]; rfl
theorem Ser.s4 (h : Ser base w s XB XQ R nS nW q gp gw gm gl vh vl vp S) : w.cell? ⟨s, 4, none⟩ = some (.int .i64 S.most) := by rw [Lib.cell_of_heap h.bk]; rfl
theorem Ser.s5 (h : Ser base w s XB XQ R nS nW q gp gw gm gl vh vl vp S) : w.cell? ⟨s, 5, none⟩ = some vp := by rw [Lib.cell_of_heap h.bk]; rfl
theorem Ser.s6 (h : Ser base w s XB XQ R nS nW q gp gw gm gl vh vl vp S) : w.cell? ⟨s, 6, none⟩ = some (.int .i64 S.lessons) := by rw [Lib.cell_of_heap h.bk]; rfl
theorem Ser.s7 (h : Ser base w s XB XQ R nS nW q gp gw gm gl vh vl vp S) : w.cell? ⟨s, 7, none⟩ = some (.slice (some ⟨gm, 0, none⟩) S.marks.length S.marks.length) := by rw [Lib.cell_of_heap h.bk]; rfl
theorem Ser.s8 (h : Ser base w s XB XQ R nS nW q gp gw gm gl vh vl vp S) : w.cell? ⟨s, 8, none⟩ = some (.slice (some ⟨gl, 0, none⟩) S.lean.length S.lean.length) := by rw [Lib.cell_of_heap h.bk]; rfl
theorem Ser.fz (h : Ser base w s XB XQ R nS nW q gp gw gm gl vh vl vp S) (k : Nat) : w.frozen? ⟨s, k, none⟩ = false := Lib.frozen_of_heap h.bk k
theorem Ser.ss (h : Ser base w s XB XQ R nS nW q gp gw gm gl vh vl vp S) : s < w.heap.size ∧ gm < w.heap.size ∧ gl < w.heap.size := ⟨(Array.getElem?_eq_some_iff.1 h.bk).1, (Array.getElem?_eq_some_iff.1 h.ma).1, (Array.getElem?_eq_some_iff.1 h.ln).1⟩
/-- The board has changed. -/
theorem Ser.board (h : Ser base w s XB XQ R nS nW q gp gw gm gl vh vl vp S) {w1 : World} {XB' : Nat → Prop} {nS' nW' : Nat} {B' : Bd} (hb : BdAt w1 XB' R nS' nW' B') (hF : Fr XB w w1 XB') : Ser base w1 s XB' XQ R nS' nW' q gp gw gm gl vh vl vp { S with B := B' } := by
  have hin : ∀ g, g < w.heap.size → ¬ XB g → ¬ XB' g := fun g hg hn hx => hn (hF.fro g hg hx)
  obtain ⟨hs1, hs2, hs3⟩ := h.ss
  exact ⟨(hF.far s hs1 h.sb).trans h.bk, hb, h.qu.far hF.size fun g hg => hF.far g (h.qu.xb g hg) fun hx => h.bq g hx hg, (hF.far gm hs2 h.mb).trans h.ma, (hF.far gl hs3 h.lb).trans h.ln, fun g hx hq => h.bq g (hF.fro g (h.qu.xb g hq) hx) hq, hin s hs1 h.sb, h.sq, hin gm hs2 h.mb, h.mq, hin gl hs3 h.lb, h.lq, h.ml, fun g hx => by
    by_cases hg : g < w.heap.size
    · exact h.bx g (hF.fro g hg hx)
    · have := h.sx; omega, h.qx, h.sx, h.mx, h.lx⟩
/-- The queue has changed. -/
theorem Ser.queue (h : Ser base w s XB XQ R nS nW q gp gw gm gl vh vl vp S) {w1 : World} {XQ' : Nat → Prop} {vh' : Value} {Q' : Qu} (hq : Qm w1 XQ' q gp gw vh' Q') (hF : Fr XQ w w1 XQ') : Ser base w1 s XB XQ' R nS nW q gp gw gm gl vh' vl vp { S with Q := Q' } := by
  have hin : ∀ g, g < w.heap.size → ¬ XQ g → ¬ XQ' g := fun g hg hn hx => hn (hF.fro g hg hx)
  obtain ⟨hs1, hs2, hs3⟩ := h.ss
  exact ⟨(hF.far s hs1 h.sq).trans h.bk, BdAt.apart h.bd hF.size fun g hg => hF.far g (BdAt.xb h.bd g hg) fun hx => h.bq g hg hx, hq, (hF.far gm hs2 h.mq).trans h.ma, (hF.far gl hs3 h.lq).trans h.ln, fun g hx hq' => h.bq g hx (hF.fro g (BdAt.xb h.bd g hx) hq'), h.sb, hin s hs1 h.sq, h.mb, hin gm hs2 h.mq, h.lb, hin gl hs3 h.lq, h.ml, h.bx, fun g hx => by
    by_cases hg : g < w.heap.size
    · exact h.qx g (hF.fro g hg hx)
    · have := h.sx; omega, h.sx, h.mx, h.lx⟩
theorem Ser.later (h : Ser base w s XB XQ R nS nW q gp gw gm gl vh vl vp S) {w1 : World} (hb : Below w.heap.size w w1) : Ser base w1 s XB XQ R nS nW q gp gw gm gl vh vl vp S := by
  obtain ⟨hs1, hs2, hs3⟩ := h.ss
  exact ⟨(hb.block s hs1).trans h.bk, BdAt.apart h.bd hb.size fun g hg => hb.block g (BdAt.xb h.bd g hg), h.qu.later hb, (hb.block gm hs2).trans h.ma, (hb.block gl hs3).trans h.ln, h.bq, h.sb, h.sq, h.mb, h.mq, h.lb, h.lq, h.ml, h.bx, h.qx, h.sx, h.mx, h.lx⟩
theorem Ser.sl (h : Ser base w s XB XQ R nS nW q gp gw gm gl vh vl vp S) : s ≠ gl := by
  rintro rfl
  have h1 := h.ln
  rw [h.bk] at h1
  injection h1 with h1
  injection h1 with _ h2
  exact absurd h2 (by decide)
/-- What is written into what the searcher leans by. -/
theorem Ser.setL (h : Ser base w s XB XQ R nS nW q gp gw gm gl vh vl vp S) (a : Nat) (x : Int) : Ser base (w.setCell ⟨gl, a, none⟩ (.int .i64 x)) s XB XQ R nS nW q gp gw gm gl vh vl vp { S with lean := S.lean.set a x } := by
  have hset : ∀ k, k ≠ gl → (w.setCell ⟨gl, a, none⟩ (.int .i64 x)).heap[k]? = w.heap[k]? := fun k hk => heap_setCell_other _ _ _ _ (by simpa using hk)
  have hsl : s ≠ gl := by
    rintro rfl
    have h1 := h.ln
    rw [h.bk] at h1
    injection h1 with h1
    injection h1 with _ h2
    exact absurd h2 (by decide)
  refine ⟨?_, BdAt.apart h.bd (by simp) fun g hg => hset g fun e => h.lb (e ▸ hg), h.qu.far (by simp) fun g hg => hset g fun e => h.lq (e ▸ hg), (hset gm h.ml).trans h.ma, ?_, h.bq, h.sb, h.sq, h.mb, h.mq, h.lb, h.lq, h.ml, h.bx, h.qx, h.sx, h.mx, h.lx⟩
  · rw [hset s hsl, h.bk]
    simp
  · rw [heap_setCell_same _ _ _ _ _ _ h.ln, map_set]
theorem Ser.bw (h : Ser base w s XB XQ R nS nW q gp gw gm gl vh vl vp S) {w1 : World} {XB' : Nat → Prop} (hF : Fr XB w w1 XB') : Below base w w1 := hF.below (Nat.le_trans h.sx (Nat.le_of_lt h.ss.1)) h.bx
theorem Ser.qw (h : Ser base w s XB XQ R nS nW q gp gw gm gl vh vl vp S) {w1 : World} {XQ' : Nat → Prop} (hF : Fr XQ w w1 XQ') : Below base w w1 := hF.below (Nat.le_trans h.sx (Nat.le_of_lt h.ss.1)) h.qx
end
end Go.Proofs.YtjhkecnnhddhbaaGreatDoor.Sr
