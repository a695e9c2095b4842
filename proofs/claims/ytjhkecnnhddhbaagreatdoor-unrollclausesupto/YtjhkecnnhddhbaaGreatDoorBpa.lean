/- What lies in memory while the toggle's circuit is made. -/
import Derived.Test.YtjhkecnnhddhbaaGreatDoorBo
namespace Go.Proofs.YtjhkecnnhddhbaaGreatDoor.Ev
open Go.RowKit Go.Maps
set_option maxRecDepth 100000
set_option maxRecDepth 100000

theorem checkT_any (B0 B1 B2 B3 : Nat) (w : World) (hT : TgAt w B0 B1 B2 B3) :
    Calls Tryz.prog 73 #[Mv.val (tgM B0 B1 B2 B3) 3] w fun e w' => e = .returned (.int .i64 0) ∧ Below w.heap.size w w' := by
  have h := check_any (some ⟨B0, 0, none⟩) (some ⟨B1, 0, none⟩) (some ⟨B2, 0, none⟩) (some ⟨B3, 0, none⟩) none 3 1 1 1 0 tgN [(1, 0)] [(1, 2)] [1] [] (by simp [maxLen, tgN]) (by decide) (by decide) (by simp [maxLen]) (by simp [maxLen]) w hT.n hT.i hT.x hT.b (fun h => by simp at h)
  rw [tg_chk] at h
  exact h

/-- A box that holds the toggle. -/
abbrev BoxS (h B0 B1 B2 B3 : Nat) (w' : World) : Prop :=
  w'.cell? ⟨h, 0, none⟩ = some (.slice (some ⟨B0, 0, none⟩) 3 3) ∧ w'.cell? ⟨h, 1, none⟩ = some (.slice (some ⟨B1, 0, none⟩) 1 1) ∧ w'.cell? ⟨h, 2, none⟩ = some (.slice (some ⟨B2, 0, none⟩) 1 1) ∧ w'.cell? ⟨h, 3, none⟩ = some (.slice (some ⟨B3, 0, none⟩) 1 1) ∧ w'.cell? ⟨h, 4, none⟩ = some (.slice none 0 0)
theorem BoxS.kept {h B0 B1 B2 B3 M : Nat} {w w1 : World} (H : BoxS h B0 B1 B2 B3 w) (hk : ∀ g, ¬ g = M → g < w.heap.size → w1.heap[g]? = w.heap[g]?) (hne : h ≠ M) : BoxS h B0 B1 B2 B3 w1 :=
  ⟨kept_cell H.1 hk hne, kept_cell H.2.1 hk hne, kept_cell H.2.2.1 hk hne, kept_cell H.2.2.2.1 hk hne, kept_cell H.2.2.2.2 hk hne⟩
theorem BoxS.set {h B0 B1 B2 B3 b : Nat} {w : World} (H : BoxS h B0 B1 B2 B3 w) (hne : h ≠ b) (j : Nat) (v : Value) : BoxS h B0 B1 B2 B3 (w.setCell ⟨b, j, none⟩ v) :=
  H.kept (M := b) (fun g hg _ => Below.heap_setCell w _ _ g (by simpa using hg)) hne
/-- A block for a circuit, in which nothing is yet. -/
structure ResS (h : Nat) (w' : World) : Prop where
  z0 : w'.cell? ⟨h, 0, none⟩ = some (.int .i64 0)
  z1 : w'.cell? ⟨h, 1, none⟩ = some (.slice none 0 0)
  z2 : w'.cell? ⟨h, 2, none⟩ = some (.int .i64 0)
  z3 : w'.cell? ⟨h, 3, none⟩ = some (.int .i64 0)
  z4 : w'.cell? ⟨h, 4, none⟩ = some (.slice none 0 0)
  z5 : w'.cell? ⟨h, 5, none⟩ = some (.slice none 0 0)
  z6 : w'.cell? ⟨h, 6, none⟩ = some (.slice none 0 0)
  z7 : w'.cell? ⟨h, 7, none⟩ = some (.slice none 0 0)
  zf : ∀ i, w'.frozen? ⟨h, i, none⟩ = false
theorem ResS.kept {h M : Nat} {w w1 : World} (H : ResS h w) (hk : ∀ g, ¬ g = M → g < w.heap.size → w1.heap[g]? = w.heap[g]?) (hne : h ≠ M) : ResS h w1 :=
  ⟨kept_cell H.z0 hk hne, kept_cell H.z1 hk hne, kept_cell H.z2 hk hne, kept_cell H.z3 hk hne, kept_cell H.z4 hk hne, kept_cell H.z5 hk hne, kept_cell H.z6 hk hne, kept_cell H.z7 hk hne, fun i => by rw [World.frozen?_of_block (w := w) (a := ⟨h, i, none⟩) (hk h hne (World.block_lt_of_cell? _ _ H.z0))]; exact H.zf i⟩
theorem ResS.later {h : Nat} {w w1 : World} (H : ResS h w) (hb : Below w.heap.size w w1) : ResS h w1 := H.kept (M := w.heap.size) (fun g _ hg => hb.block g hg) (by have := World.block_lt_of_cell? _ _ H.z0; simp at this; omega)
abbrev newC : Obj := .cells #[.int .i64 0, .slice none 0 0, .int .i64 0, .int .i64 0, .slice none 0 0, .slice none 0 0, .slice none 0 0, .slice none 0 0] 27
theorem res_new (w : World) : ResS w.heap.size (w.alloc newC) := ⟨by simp [go_sem], by simp [go_sem], by simp [go_sem], by simp [go_sem], by simp [go_sem], by simp [go_sem], by simp [go_sem], by simp [go_sem], fun i => by simp [go_sem]⟩

/-- A place in none of a block's first cells. -/
def Off (p : Option Addr) (h : Nat) : Prop := ∀ b off, p = some ⟨b, off, none⟩ → ∀ j, j ≤ 7 → ¬ (b = h ∧ off = j)
theorem off_ne {p : Option Addr} {h : Nat} (H : ∀ b off, p = some ⟨b, off, none⟩ → b ≠ h) : Off p h := fun b off e _ _ h2 => H b off e h2.1
theorem ints_off {w : World} {p : Option Addr} {x : Int} {h j : Nat} (H : IntsAt w p [x]) (ho : Off p h) (hj : j ≤ 7) (v : Value) : IntsAt (w.setCell ⟨h, j, none⟩ v) p [x] := fun h0 => by
  obtain ⟨b, off, rfl, hc⟩ := H h0
  refine ⟨b, off, rfl, fun i hi => ?_⟩
  have hi0 : i = 0 := by simpa using hi
  subst hi0
  rw [World.cell?_setCell_other w _ _ _ (by have := ho b off rfl j hj; simp; omega)]
  exact hc 0 hi
theorem off_of {w : World} {p : Option Addr} {x : Int} {h : Nat} (R : ResS h w) (H : IntsAt w p [x]) (hx : x ≠ 0) : Off p h := fun b off e j hj h2 => by
  obtain ⟨b', off', e', hc⟩ := H (by simp)
  rw [e] at e'
  cases e'
  obtain ⟨rfl, rfl⟩ := h2
  have h1 : w.cell? ⟨b, off, none⟩ = some (.int .i64 x) := by simpa using hc 0 (by simp)
  have : off = 0 ∨ off = 1 ∨ off = 2 ∨ off = 3 ∨ off = 4 ∨ off = 5 ∨ off = 6 ∨ off = 7 := by omega
  rcases this with rfl | rfl | rfl | rfl | rfl | rfl | rfl | rfl
  · rw [R.z0] at h1; cases h1; exact hx rfl
  · rw [R.z1] at h1; cases h1
  · rw [R.z2] at h1; cases h1; exact hx rfl
  · rw [R.z3] at h1; cases h1; exact hx rfl
  · rw [R.z4] at h1; cases h1
  · rw [R.z5] at h1; cases h1
  · rw [R.z6] at h1; cases h1
  · rw [R.z7] at h1; cases h1
theorem ints_lt {w : World} {p : Option Addr} {x : Int} (H : IntsAt w p [x]) : ∀ b off, p = some ⟨b, off, none⟩ → b < w.heap.size := fun b off e => by
  obtain ⟨b', off', e', hc⟩ := H (by simp)
  rw [e] at e'
  cases e'
  exact World.block_lt_of_cell? _ _ (hc 0 (by simp))

/-- What stands from the blaster's beginning on. -/
structure Ez (w wr : World) (n P M B0 B1 B2 B3 : Nat) (pi : Option Addr) : Prop where
  x : BoxS w.heap.size B0 B1 B2 B3 wr
  g : ∃ X pv cv, wr.cell? ⟨P, 0, none⟩ = some (.pointer (some ⟨X, 0, none⟩)) ∧ wr.cell? ⟨X, 0, none⟩ = some (.int .i64 1) ∧ wr.cell? ⟨X, 1, none⟩ = some (.slice pv 0 cv) ∧ P ≠ M ∧ X ≠ M ∧ P < n ∧ X < n
  r : ResS (w.heap.size + 1) wr
  i : IntsAt wr pi [0]
  li : ∀ b off, pi = some ⟨b, off, none⟩ → w.heap.size + 2 ≤ b ∧ b < n ∧ b ≠ M
  bel : Below w.heap.size w wr
  hn : w.heap.size + 2 ≤ n
  hs : n ≤ wr.heap.size
  hM : w.heap.size + 2 ≤ M
  hMn : M < n
theorem Ez.kept {w wr w1 : World} {n P M B0 B1 B2 B3 : Nat} {pi : Option Addr} (H : Ez w wr n P M B0 B1 B2 B3 pi) (hb : Below w.heap.size wr w1) (hk : ∀ g, ¬ g = M → g < wr.heap.size → w1.heap[g]? = wr.heap[g]?) : Ez w w1 n P M B0 B1 B2 B3 pi := by
  obtain ⟨X, pv, cv, h1, h2, h3, h4, h5, h6, h7⟩ := H.g
  have hM := H.hM
  refine ⟨H.x.kept hk (by omega), ⟨X, pv, cv, kept_cell h1 hk h4, kept_cell h2 hk h5, kept_cell h3 hk h5, h4, h5, h6, h7⟩, H.r.kept hk (by omega), ?_, H.li, H.bel.trans hb, H.hn, Nat.le_trans H.hs hb.size, H.hM, H.hMn⟩
  intro h0
  obtain ⟨b, off, e, hc⟩ := H.i h0
  exact ⟨b, off, e, fun i hi => kept_cell (hc i hi) hk (H.li b off e).2.2⟩
theorem Ez.later {w wr w1 : World} {n P M B0 B1 B2 B3 : Nat} {pi : Option Addr} (H : Ez w wr n P M B0 B1 B2 B3 pi) (hb : Below wr.heap.size wr w1) : Ez w w1 n P M B0 B1 B2 B3 pi := H.kept (hb.mono (by have := H.bel.size; omega)) (fun g _ hg => hb.block g hg)
theorem Ez.alloc {w wr : World} {n P M B0 B1 B2 B3 : Nat} {pi : Option Addr} (H : Ez w wr n P M B0 B1 B2 B3 pi) (o : Obj) : Ez w (wr.alloc o) n P M B0 B1 B2 B3 pi := H.later (bal (Below.refl _ _) o)

/-- The circuit, but its graph. -/
structure Fz (w wx : World) (n P M B0 B1 B2 B3 blk : Nat) (pi : Option Addr) (ci : Nat) (pn : Option Addr) (cn : Nat) (pb : Option Addr) (cb : Nat) : Prop where
  e : Ez w wx n P M B0 B1 B2 B3 pi
  a : IntsAt wx pn [3]
  b : IntsAt wx pb [2]
  c0 : wx.cell? ⟨blk, 0, none⟩ = some (.int .i64 0)
  c1 : wx.cell? ⟨blk, 1, none⟩ = some (.slice none 0 0)
  c2 : wx.cell? ⟨blk, 2, none⟩ = some (.int .i64 0)
  c3 : wx.cell? ⟨blk, 3, none⟩ = some (.int .i64 1)
  c4 : wx.cell? ⟨blk, 4, none⟩ = some (.slice pi 1 ci)
  c5 : wx.cell? ⟨blk, 5, none⟩ = some (.slice pn 1 cn)
  c6 : wx.cell? ⟨blk, 6, none⟩ = some (.slice pb 1 cb)
  c7 : wx.cell? ⟨blk, 7, none⟩ = some (.slice none 0 0)
  cf : ∀ i, wx.frozen? ⟨blk, i, none⟩ = false
  oa : Off pn blk
  ob : Off pb blk
  hb : n ≤ blk
theorem fz_alloc {w w8 : World} {n P M B0 B1 B2 B3 : Nat} {pi pn pb : Option Addr} {ci cn cb : Nat} (H : Ez w w8 n P M B0 B1 B2 B3 pi) (ha : IntsAt w8 pn [3]) (hb : IntsAt w8 pb [2]) :
    Fz w (w8.alloc (.cells #[.int .i64 0, .slice none 0 0, .int .i64 0, .int .i64 1, .slice pi 1 ci, .slice pn 1 cn, .slice pb 1 cb, .slice none 0 0] 27)) n P M B0 B1 B2 B3 w8.heap.size pi ci pn cn pb cb :=
  ⟨H.alloc _, ha.later (bal (Below.refl _ _) _), hb.later (bal (Below.refl _ _) _), by simp [go_sem], by simp [go_sem], by simp [go_sem], by simp [go_sem], by simp [go_sem], by simp [go_sem], by simp [go_sem], by simp [go_sem], fun i => by simp [go_sem], off_ne fun b off e => Nat.ne_of_lt (ints_lt ha b off e), off_ne fun b off e => Nat.ne_of_lt (ints_lt hb b off e), H.hs⟩
theorem Ez.set {w wr : World} {n P M B0 B1 B2 B3 blk : Nat} {pi : Option Addr} (H : Ez w wr n P M B0 B1 B2 B3 pi) (hb : n ≤ blk) (j : Nat) (v : Value) : Ez w (wr.setCell ⟨blk, j, none⟩ v) n P M B0 B1 B2 B3 pi := by
  obtain ⟨X, pv, cv, h1, h2, h3, h4, h5, h6, h7⟩ := H.g
  have hn := H.hn
  have hk : ∀ g, ¬ g = blk → g < wr.heap.size → (wr.setCell ⟨blk, j, none⟩ v).heap[g]? = wr.heap[g]? := fun g hg _ => Below.heap_setCell wr _ _ g (by simpa using hg)
  refine ⟨H.x.kept hk (by omega), ⟨X, pv, cv, kept_cell h1 hk (by simp; omega), kept_cell h2 hk (by simp; omega), kept_cell h3 hk (by simp; omega), h4, h5, h6, h7⟩, H.r.kept hk (by omega), ?_, H.li, H.bel.setCell (p := ⟨blk, j, none⟩) (by simp; omega) v, H.hn, by simpa using H.hs, H.hM, H.hMn⟩
  intro h0
  obtain ⟨b, off, e, hc⟩ := H.i h0
  exact ⟨b, off, e, fun i hi => kept_cell (hc i hi) hk (by have := (H.li b off e).2.1; simp; omega)⟩
/-- Eight cells of a block, set one behind another. -/
abbrev set8 (w8 : World) (blk : Nat) (v0 v1 v2 v3 v4 v5 v6 v7 : Value) : World := ((((((((w8.setCell ⟨blk, 0, none⟩ v0).setCell ⟨blk, 1, none⟩ v1).setCell ⟨blk, 2, none⟩ v2).setCell ⟨blk, 3, none⟩ v3).setCell ⟨blk, 4, none⟩ v4).setCell ⟨blk, 5, none⟩ v5).setCell ⟨blk, 6, none⟩ v6).setCell ⟨blk, 7, none⟩ v7)
theorem ints_set8 {w : World} {p : Option Addr} {x : Int} {h : Nat} (H : IntsAt w p [x]) (ho : Off p h) (v0 v1 v2 v3 v4 v5 v6 v7 : Value) : IntsAt (set8 w h v0 v1 v2 v3 v4 v5 v6 v7) p [x] :=
  ints_off (ints_off (ints_off (ints_off (ints_off (ints_off (ints_off (ints_off H ho (by omega) _) ho (by omega) _) ho (by omega) _) ho (by omega) _) ho (by omega) _) ho (by omega) _) ho (by omega) _) ho (by omega) _
theorem set8_cells {w : World} {h : Nat} (R : ResS h w) (v0 v1 v2 v3 v4 v5 v6 v7 : Value) :
    (set8 w h v0 v1 v2 v3 v4 v5 v6 v7).cell? ⟨h, 0, none⟩ = some v0 ∧ (set8 w h v0 v1 v2 v3 v4 v5 v6 v7).cell? ⟨h, 1, none⟩ = some v1 ∧ (set8 w h v0 v1 v2 v3 v4 v5 v6 v7).cell? ⟨h, 2, none⟩ = some v2 ∧ (set8 w h v0 v1 v2 v3 v4 v5 v6 v7).cell? ⟨h, 3, none⟩ = some v3 ∧ (set8 w h v0 v1 v2 v3 v4 v5 v6 v7).cell? ⟨h, 4, none⟩ = some v4 ∧ (set8 w h v0 v1 v2 v3 v4 v5 v6 v7).cell? ⟨h, 5, none⟩ = some v5 ∧ (set8 w h v0 v1 v2 v3 v4 v5 v6 v7).cell? ⟨h, 6, none⟩ = some v6 ∧ (set8 w h v0 v1 v2 v3 v4 v5 v6 v7).cell? ⟨h, 7, none⟩ = some v7 := by
  obtain ⟨z0, z1, z2, z3, z4, z5, z6, z7, _⟩ := R
  refine ⟨?_, ?_, ?_, ?_, ?_, ?_, ?_, ?_⟩ <;> simp [set8, go_sem, *]
theorem fz_set {w w8 : World} {n P M B0 B1 B2 B3 blk : Nat} {pi pn pb : Option Addr} {ci cn cb : Nat} (H : Ez w w8 n P M B0 B1 B2 B3 pi) (ha : IntsAt w8 pn [3]) (hb : IntsAt w8 pb [2]) (R : ResS blk w8) (hn : n ≤ blk) :
    Fz w (set8 w8 blk (.int .i64 0) (.slice none 0 0) (.int .i64 0) (.int .i64 1) (.slice pi 1 ci) (.slice pn 1 cn) (.slice pb 1 cb) (.slice none 0 0)) n P M B0 B1 B2 B3 blk pi ci pn cn pb cb := by
  obtain ⟨c0, c1, c2, c3, c4, c5, c6, c7⟩ := set8_cells R (.int .i64 0) (.slice none 0 0) (.int .i64 0) (.int .i64 1) (.slice pi 1 ci) (.slice pn 1 cn) (.slice pb 1 cb) (.slice none 0 0)
  have oa := off_of R ha (by decide)
  have ob := off_of R hb (by decide)
  exact ⟨((((((((H.set hn 0 _).set hn 1 _).set hn 2 _).set hn 3 _).set hn 4 _).set hn 5 _).set hn 6 _).set hn 7 _), ints_set8 ha oa _ _ _ _ _ _ _ _, ints_set8 hb ob _ _ _ _ _ _ _ _, c0, c1, c2, c3, c4, c5, c6, c7, fun i => by simp only [set8, World.frozen?_setCell]; exact R.zf i, oa, ob, hn⟩
end Go.Proofs.YtjhkecnnhddhbaaGreatDoor.Ev
