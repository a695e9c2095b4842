/- The bits of some nodes of the toggle. -/
import Derived.Test.YtoanniogajeieabGreatBm
namespace Go.Proofs.YtoanniogajeieabGreat
open Go.RowKit Go.Maps
set_option maxRecDepth 100000

theorem all0_any (P : Nat) (p : Option Addr) (cap : Nat) (w : World) :
    Calls Tryz.prog 35 #[.pointer (some ⟨P, 0, none⟩), .slice p 0 cap] w fun e w' => e = .returned (.slice none 0 0) ∧ w' = w := by
  go_enter Tryz.func35, Tryz.ntmps35
  go_wp2
  go_loopw [5, 10] (fun v i wr => v = .slice none 0 0 ∧ i = .int .i64 0 ∧ wr = w) (fun _ _ _ => 0)
  case atStart => exact ⟨rfl, rfl, rfl⟩
  case round =>
    obtain ⟨rfl, rfl, rfl⟩ := hrel
    go_wp2
    go_ret
    exact ⟨rfl, rfl⟩

set_option maxHeartbeats 4000000 in
theorem all1_any (P : Nat) (p : Option Addr) (cap : Nat) (x y : Int) (Q : World → Prop) (w : World) (hI : IntsAt w p [x])
    (hW : Calls Tryz.prog 60 #[.pointer (some ⟨P, 0, none⟩), .int .i64 x] w fun e w' => ∃ G2, e = .returned (.slice (some ⟨G2, 0, none⟩) 1 1) ∧ Gg.IRow w' G2 [y] ∧ Q w') :
    Calls Tryz.prog 35 #[.pointer (some ⟨P, 0, none⟩), .slice p 1 cap] w fun e w' => ∃ q k w1, e = .returned (.slice q 1 k) ∧ IntsAt w' q [y] ∧ Q w1 ∧ Below w1.heap.size w1 w' := by
  have HW := hide hW
  clear hW
  obtain ⟨b, off, rfl, hc⟩ := hI (by simp)
  have hc0 : w.cell? ⟨b, off, none⟩ = some (.int .i64 x) := by simpa using hc 0 (by simp)
  clear hc hI
  go_enter Tryz.func35, Tryz.ntmps35
  go_wp2
  go_loopw [5, 10] (fun v i wr => ∃ j : Nat, j ≤ 1 ∧ i = .int .i64 j ∧ ((j = 0 ∧ v = .slice none 0 0 ∧ wr = w) ∨ (j = 1 ∧ Hid (∃ q k w1, v = .slice q 1 k ∧ IntsAt wr q [y] ∧ Q w1 ∧ Below w1.heap.size w1 wr)))) (fun _ i _ => 1 - (intOf i).toNat)
  case atStart => exact ⟨0, by omega, rfl, Or.inl ⟨rfl, rfl, rfl⟩⟩
  case round =>
    obtain ⟨j, hj, rfl, ⟨rfl, rfl, hw1⟩ | ⟨rfl, HR⟩⟩ := hrel
    · subst hw1
      go_wp2_with fail
      refine HW.out.mono ?_
      rintro e w1 ⟨G2, rfl, hr, hq⟩
      have HRG := hide (Gg.irow_ints hr)
      have HQ := hide hq
      have HO : Hid (w1.ownsRow w1.heap.size 3 1 (.slice none 0 0) ([] : List Int).length (([] : List Int).map (Value.int .i64))) := World.ownsRow_nil _ _ _ _
      clear hr hq
      go_wp2_with (at_builtin; refine Gg.wpList_append_ints rfl _ _ rfl w1.heap.size _ [] [y] rfl HO.out _ _ rfl HRG.out (fun h => by cases h) (by simp) (by omega) ?_)
      intro v' w6 hown6 hg6
      obtain ⟨q, k, rfl, hiv, _⟩ := Gg.owns_ints (l := [y]) hown6
      have HS : Hid (∃ q' k' w1, (Value.slice q 1 k) = .slice q' 1 k' ∧ IntsAt w6 q' [y] ∧ Q w1 ∧ Below w1.heap.size w1 w6) := ⟨q, k, w1, rfl, hiv, HQ.out, (Below.refl _ _).grown hg6 (Nat.le_refl _) (fun j hj => by cases hj)⟩
      clear hown6 hg6 hiv
      go_wp2
      go_roundw
      case rel => exact ⟨1, by omega, by go_num, Or.inr ⟨rfl, HS⟩⟩
      case measure => simp [intOf]
    · obtain ⟨q, k, w1, rfl, hi, hq, hb⟩ := HR.out
      have HX := hide (And.intro hi (And.intro hq hb))
      clear hi hq hb
      go_wp2
      go_ret
      exact ⟨q, k, w1, rfl, HX.out.1, HX.out.2.1, HX.out.2.2⟩
end Go.Proofs.YtoanniogajeieabGreat

namespace Go.Proofs.YtoanniogajeieabGreat
open Go.RowKit Go.Maps
set_option maxRecDepth 100000

theorem Bz.put {w w1 : World} {P M B0 G G2 : Nat} {D : DataW Unit} (h : Bz w P M B0 G 1 D) (hown : w1.ownsMap Tryz.prog 3 slR M 2 (D.put (.int .i64 2) (slD G2 0 1 1))) (hsz : w.heap.size ≤ w1.heap.size) (hk : ∀ g, ¬ g = M → g < w.heap.size → w1.heap[g]? = w.heap[g]?) :
    Bz w1 P M B0 G 2 (D.put (.int .i64 2) (slD G2 0 1 1)) :=
  ⟨kept_cell h.b1 hk h.nePM, kept_cell h.b2 hk h.nePM, hown, by rw [has_put_other (by simp)]; exact h.has1, by rw [atKey_put_other (by simp)]; exact h.at1, h.row.kept (hk _ h.neGM (World.block_lt_of_cell? _ _ (h.row 0 (by simp)).1)), Nat.lt_of_lt_of_le h.ltM hsz, h.nePM, h.neGM⟩
theorem Gz.kept {w w1 : World} {P M : Nat} (h : Gz w P M) (hk : ∀ g, ¬ g = M → g < w.heap.size → w1.heap[g]? = w.heap[g]?) : Gz w1 P M := by
  obtain ⟨X, pv, cv, h1, h2, h3, h4, h5⟩ := h.g
  exact ⟨X, pv, cv, kept_cell h1 hk h4, kept_cell h2 hk h5, kept_cell h3 hk h5, h4, h5⟩
theorem Gz.later {w w1 : World} {P M : Nat} (h : Gz w P M) (hb : Below w.heap.size w w1) : Gz w1 P M := h.kept (fun g _ hg => hb.block g hg)

/-- The bits that the state is next. -/
theorem allNexts_any (P M B0 G : Nat) (D : DataW Unit) (base : Nat) (hbM : base ≤ M) (p : Option Addr) (cap : Nat) (w : World) (h : Bz w P M B0 G 1 D) (h2 : Maps.has D (.int .i64 2) = false) (a2 : D.atKey (.int .i64 2) .nil = .nil) (hN : NodesAt w (some ⟨B0, 0, none⟩) tgN) (hI : IntsAt w p [2]) :
    Calls Tryz.prog 35 #[.pointer (some ⟨P, 0, none⟩), .slice p 1 cap] w fun e w' => ∃ q k D', e = .returned (.slice q 1 k) ∧ IntsAt w' q [3] ∧ Bz w' P M B0 G 2 D' ∧ Below base w w' ∧ ∀ g, ¬ g = M → g < w.heap.size → w'.heap[g]? = w.heap[g]? := by
  refine (all1_any P p cap 2 3 (fun w1 => (∃ D', Bz w1 P M B0 G 2 D') ∧ Below base w w1 ∧ ∀ g, ¬ g = M → g < w.heap.size → w1.heap[g]? = w.heap[g]?) w hI
    ((word2_any P M B0 G 1 D w (by omega) h h2 a2 hN base hbM).mono fun e w' ⟨G2, h1, _, h3, h4, h5, h6⟩ => ⟨G2, h1, h3, ⟨_, h.put h4 h5.size h6⟩, h5, h6⟩)).mono fun e w' ⟨q, k, w1, h1, h2, ⟨⟨D', hz⟩, hb, hk⟩, hb1⟩ => ?_
  have := h.ltM
  have hs := hb.size
  refine ⟨q, k, D', h1, h2, hz.later hb1, hb.trans (hb1.mono (by omega)), fun g h1 h2 => ?_⟩
  rw [hb1.block g (by omega)]
  exact hk g h1 h2
/-- The bits that are bad. -/
theorem allBads_any (P M B0 G n : Nat) (D : DataW Unit) (p : Option Addr) (cap : Nat) (w : World) (h : Bz w P M B0 G n D) (hI : IntsAt w p [1]) :
    Calls Tryz.prog 35 #[.pointer (some ⟨P, 0, none⟩), .slice p 1 cap] w fun e w' => ∃ q k, e = .returned (.slice q 1 k) ∧ IntsAt w' q [2] ∧ Below w.heap.size w w' := by
  refine (all1_any P p cap 1 2 (fun w1 => w1 = w) w hI
    ((word1_any P M B0 G n D w h).mono fun e w' ⟨h1, h2⟩ => ⟨G, h1, by rw [h2]; exact h.row, h2⟩)).mono fun e w' ⟨q, k, w1, h1, h2, h3, hb1⟩ => ?_
  subst h3
  exact ⟨q, k, h1, h2, hb1⟩

theorem tg_wok : Wok tgN := by unfold Wok; decide
theorem tg_in : sumW tgN (sel (isK tgN 2) tgN.length) = 0 := by decide
theorem tg_st : sumW tgN (sel (isK tgN 3) tgN.length) = 1 := by decide
theorem tg_nexts : (sel (isK tgN 3) tgN.length).map (lastV [(1, 2)]) = [2] := by decide

theorem nextOnesT_any (B0 B1 B2 B3 : Nat) (w : World) (hT : TgAt w B0 B1 B2 B3) :
    Calls Tryz.prog 36 #[Mv.val (tgM B0 B1 B2 B3) 3] w fun e w' => ∃ p cap, e = .returned (.slice p 1 cap) ∧ IntsAt w' p [2] ∧ Below w.heap.size w w' := by
  have h := nextOnes_any (some ⟨B0, 0, none⟩) (some ⟨B1, 0, none⟩) (some ⟨B2, 0, none⟩) (some ⟨B3, 0, none⟩) none 3 1 1 1 0 1 1 0 tgN [(1, 2)] (by decide) (by decide) (pairs_in (by decide)) w hT.n hT.x
  rw [tg_nexts] at h
  exact h
theorem bitsT2_any (B0 B1 B2 B3 : Nat) (w : World) (hT : TgAt w B0 B1 B2 B3) :
    Calls Tryz.prog 34 #[.slice (some ⟨B0, 0, none⟩) 3 3, .int .i64 2] w fun e w' => e = .returned (.int .i64 0) ∧ Below w.heap.size w w' := by
  have h := bitsOf_any (some ⟨B0, 0, none⟩) 3 tgN (by decide) tg_wok 2 w hT.n
  rw [tg_in] at h
  exact h
theorem bitsT3_any (B0 B1 B2 B3 : Nat) (w : World) (hT : TgAt w B0 B1 B2 B3) :
    Calls Tryz.prog 34 #[.slice (some ⟨B0, 0, none⟩) 3 3, .int .i64 3] w fun e w' => e = .returned (.int .i64 1) ∧ Below w.heap.size w w' := by
  have h := bitsOf_any (some ⟨B0, 0, none⟩) 3 tgN (by decide) tg_wok 3 w hT.n
  rw [tg_st] at h
  exact h
end Go.Proofs.YtoanniogajeieabGreat

namespace Go.Proofs.YtoanniogajeieabGreat
open Go.RowKit Go.Maps
set_option maxRecDepth 100000

theorem checkT_any (B0 B1 B2 B3 : Nat) (w : World) (hT : TgAt w B0 B1 B2 B3) :
    Calls Tryz.prog 31 #[Mv.val (tgM B0 B1 B2 B3) 3] w fun e w' => e = .returned (.int .i64 0) ∧ Below w.heap.size w w' := by
  have h := check_any (some ⟨B0, 0, none⟩) (some ⟨B1, 0, none⟩) (some ⟨B2, 0, none⟩) (some ⟨B3, 0, none⟩) none 3 1 1 1 0 tgN [(1, 0)] [(1, 2)] [1] [] (by simp [maxLen, tgN]) (by decide) (by decide) (by simp [maxLen]) (by simp [maxLen]) w hT.n hT.i hT.x hT.b (fun h => by simp at h)
  rw [tg_chk] at h
  exact h

/-- A box that holds the toggle. -/
abbrev BoxS (h B0 B1 B2 B3 : Nat) (w' : World) : Prop :=
  w'.cell? ⟨h, 0, none⟩ = some (.slice (some ⟨B0, 0, none⟩) 3 3) ∧ w'.cell? ⟨h, 1, none⟩ = some (.slice (some ⟨B1, 0, none⟩) 1 1) ∧ w'.cell? ⟨h, 2, none⟩ = some (.slice (some ⟨B2, 0, none⟩) 1 1) ∧ w'.cell? ⟨h, 3, none⟩ = some (.slice (some ⟨B3, 0, none⟩) 1 1) ∧ w'.cell? ⟨h, 4, none⟩ = some (.slice none 0 0)
theorem BoxS.kept {h B0 B1 B2 B3 M : Nat} {w w1 : World} (H : BoxS h B0 B1 B2 B3 w) (hk : ∀ g, ¬ g = M → g < w.heap.size → w1.heap[g]? = w.heap[g]?) (hne : h ≠ M) : BoxS h B0 B1 B2 B3 w1 :=
  ⟨kept_cell H.1 hk hne, kept_cell H.2.1 hk hne, kept_cell H.2.2.1 hk hne, kept_cell H.2.2.2.1 hk hne, kept_cell H.2.2.2.2 hk hne⟩
theorem BoxS.set {h B0 B1 B2 B3 b : Nat} {w : World} (H : BoxS h B0 B1 B2 B3 w) (hne : h ≠ b) (j : Nat) (v : Value) : BoxS h B0 B1 B2 B3 (w.setCell ⟨b, j, none⟩ v) :=
  H.kept (M := b) (fun g hg _ => Below.heap_setCell w _ _ g (by simpa using hg)) hne
/-- A block for a circuit, in which nothing is yet. -/
structure ResS (h : Nat) (w' : World) : Prop where
  z0 : w'.cell? ⟨h, 0, none⟩ = some (.int .i64 0)
  z1 : w'.cell? ⟨h, 1, none⟩ = some (.slice none 0 0)
  z2 : w'.cell? ⟨h, 2, none⟩ = some (.int .i64 0)
  z3 : w'.cell? ⟨h, 3, none⟩ = some (.int .i64 0)
  z4 : w'.cell? ⟨h, 4, none⟩ = some (.slice none 0 0)
  z5 : w'.cell? ⟨h, 5, none⟩ = some (.slice none 0 0)
  z6 : w'.cell? ⟨h, 6, none⟩ = some (.slice none 0 0)
  z7 : w'.cell? ⟨h, 7, none⟩ = some (.slice none 0 0)
  zf : ∀ i, w'.frozen? ⟨h, i, none⟩ = false
theorem ResS.kept {h M : Nat} {w w1 : World} (H : ResS h w) (hk : ∀ g, ¬ g = M → g < w.heap.size → w1.heap[g]? = w.heap[g]?) (hne : h ≠ M) : ResS h w1 :=
  ⟨kept_cell H.z0 hk hne, kept_cell H.z1 hk hne, kept_cell H.z2 hk hne, kept_cell H.z3 hk hne, kept_cell H.z4 hk hne, kept_cell H.z5 hk hne, kept_cell H.z6 hk hne, kept_cell H.z7 hk hne, fun i => by rw [World.frozen?_of_block (w := w) (a := ⟨h, i, none⟩) (hk h hne (World.block_lt_of_cell? _ _ H.z0))]; exact H.zf i⟩
theorem ResS.later {h : Nat} {w w1 : World} (H : ResS h w) (hb : Below w.heap.size w w1) : ResS h w1 := H.kept (M := w.heap.size) (fun g _ hg => hb.block g hg) (by have := World.block_lt_of_cell? _ _ H.z0; simp at this; omega)
abbrev newC : Obj := .cells #[.int .i64 0, .slice none 0 0, .int .i64 0, .int .i64 0, .slice none 0 0, .slice none 0 0, .slice none 0 0, .slice none 0 0] 27
theorem res_new (w : World) : ResS w.heap.size (w.alloc newC) := ⟨by simp [go_sem], by simp [go_sem], by simp [go_sem], by simp [go_sem], by simp [go_sem], by simp [go_sem], by simp [go_sem], by simp [go_sem], fun i => by simp [go_sem]⟩

/-- A place in none of a block's first cells. -/
def Off (p : Option Addr) (h : Nat) : Prop := ∀ b off, p = some ⟨b, off, none⟩ → ∀ j, j ≤ 7 → ¬ (b = h ∧ off = j)
theorem off_ne {p : Option Addr} {h : Nat} (H : ∀ b off, p = some ⟨b, off, none⟩ → b ≠ h) : Off p h := fun b off e _ _ h2 => H b off e h2.1
theorem ints_off {w : World} {p : Option Addr} {x : Int} {h j : Nat} (H : IntsAt w p [x]) (ho : Off p h) (hj : j ≤ 7) (v : Value) : IntsAt (w.setCell ⟨h, j, none⟩ v) p [x] := fun h0 => by
  obtain ⟨b, off, rfl, hc⟩ := H h0
  refine ⟨b, off, rfl, fun i hi => ?_⟩
  have hi0 : i = 0 := by simpa using hi
  subst hi0
  rw [World.cell?_setCell_other w _ _ _ (by have := ho b off rfl j hj; simp; omega)]
  exact hc 0 hi
theorem off_of {w : World} {p : Option Addr} {x : Int} {h : Nat} (R : ResS h w) (H : IntsAt w p [x]) (hx : x ≠ 0) : Off p h := fun b off e j hj h2 => by
  obtain ⟨b', off', e', hc⟩ := H (by simp)
  rw [e] at e'
  cases e'
  obtain ⟨rfl, rfl⟩ := h2
  have h1 : w.cell? ⟨b, off, none⟩ = some (.int .i64 x) := by simpa using hc 0 (by simp)
  have : off = 0 ∨ off = 1 ∨ off = 2 ∨ off = 3 ∨ off = 4 ∨ off = 5 ∨ off = 6 ∨ off = 7 := by omega
  rcases this with rfl | rfl | rfl | rfl | rfl | rfl | rfl | rfl
  · rw [R.z0] at h1; cases h1; exact hx rfl
  · rw [R.z1] at h1; cases h1
  · rw [R.z2] at h1; cases h1; exact hx rfl
  · rw [R.z3] at h1; cases h1; exact hx rfl
  · rw [R.z4] at h1; cases h1
  · rw [R.z5] at h1; cases h1
  · rw [R.z6] at h1; cases h1
  · rw [R.z7] at h1; cases h1
theorem ints_lt {w : World} {p : Option Addr} {x : Int} (H : IntsAt w p [x]) : ∀ b off, p = some ⟨b, off, none⟩ → b < w.heap.size := fun b off e => by
  obtain ⟨b', off', e', hc⟩ := H (by simp)
  rw [e] at e'
  cases e'
  exact World.block_lt_of_cell? _ _ (hc 0 (by simp))

/-- What stands from the blaster's beginning on. -/
structure Ez (w wr : World) (n P M B0 B1 B2 B3 : Nat) (pi : Option Addr) : Prop where
  x : BoxS w.heap.size B0 B1 B2 B3 wr
  g : ∃ X pv cv, wr.cell? ⟨P, 0, none⟩ = some (.pointer (some ⟨X, 0, none⟩)) ∧ wr.cell? ⟨X, 0, none⟩ = some (.int .i64 1) ∧ wr.cell? ⟨X, 1, none⟩ = some (.slice pv 0 cv) ∧ P ≠ M ∧ X ≠ M ∧ P < n ∧ X < n
  r : ResS (w.heap.size + 1) wr
  i : IntsAt wr pi [0]
  li : ∀ b off, pi = some ⟨b, off, none⟩ → w.heap.size + 2 ≤ b ∧ b < n ∧ b ≠ M
  bel : Below w.heap.size w wr
  hn : w.heap.size + 2 ≤ n
  hs : n ≤ wr.heap.size
  hM : w.heap.size + 2 ≤ M
  hMn : M < n
theorem Ez.kept {w wr w1 : World} {n P M B0 B1 B2 B3 : Nat} {pi : Option Addr} (H : Ez w wr n P M B0 B1 B2 B3 pi) (hb : Below w.heap.size wr w1) (hk : ∀ g, ¬ g = M → g < wr.heap.size → w1.heap[g]? = wr.heap[g]?) : Ez w w1 n P M B0 B1 B2 B3 pi := by
  obtain ⟨X, pv, cv, h1, h2, h3, h4, h5, h6, h7⟩ := H.g
  have hM := H.hM
  refine ⟨H.x.kept hk (by omega), ⟨X, pv, cv, kept_cell h1 hk h4, kept_cell h2 hk h5, kept_cell h3 hk h5, h4, h5, h6, h7⟩, H.r.kept hk (by omega), ?_, H.li, H.bel.trans hb, H.hn, Nat.le_trans H.hs hb.size, H.hM, H.hMn⟩
  intro h0
  obtain ⟨b, off, e, hc⟩ := H.i h0
  exact ⟨b, off, e, fun i hi => kept_cell (hc i hi) hk (H.li b off e).2.2⟩
theorem Ez.later {w wr w1 : World} {n P M B0 B1 B2 B3 : Nat} {pi : Option Addr} (H : Ez w wr n P M B0 B1 B2 B3 pi) (hb : Below wr.heap.size wr w1) : Ez w w1 n P M B0 B1 B2 B3 pi := H.kept (hb.mono (by have := H.bel.size; omega)) (fun g _ hg => hb.block g hg)
theorem Ez.alloc {w wr : World} {n P M B0 B1 B2 B3 : Nat} {pi : Option Addr} (H : Ez w wr n P M B0 B1 B2 B3 pi) (o : Obj) : Ez w (wr.alloc o) n P M B0 B1 B2 B3 pi := H.later (bal (Below.refl _ _) o)

/-- The circuit, but its graph. -/
structure Fz (w wx : World) (n P M B0 B1 B2 B3 blk : Nat) (pi : Option Addr) (ci : Nat) (pn : Option Addr) (cn : Nat) (pb : Option Addr) (cb : Nat) : Prop where
  e : Ez w wx n P M B0 B1 B2 B3 pi
  a : IntsAt wx pn [3]
  b : IntsAt wx pb [2]
  c0 : wx.cell? ⟨blk, 0, none⟩ = some (.int .i64 0)
  c1 : wx.cell? ⟨blk, 1, none⟩ = some (.slice none 0 0)
  c2 : wx.cell? ⟨blk, 2, none⟩ = some (.int .i64 0)
  c3 : wx.cell? ⟨blk, 3, none⟩ = some (.int .i64 1)
  c4 : wx.cell? ⟨blk, 4, none⟩ = some (.slice pi 1 ci)
  c5 : wx.cell? ⟨blk, 5, none⟩ = some (.slice pn 1 cn)
  c6 : wx.cell? ⟨blk, 6, none⟩ = some (.slice pb 1 cb)
  c7 : wx.cell? ⟨blk, 7, none⟩ = some (.slice none 0 0)
  cf : ∀ i, wx.frozen? ⟨blk, i, none⟩ = false
  oa : Off pn blk
  ob : Off pb blk
  hb : n ≤ blk
theorem fz_alloc {w w8 : World} {n P M B0 B1 B2 B3 : Nat} {pi pn pb : Option Addr} {ci cn cb : Nat} (H : Ez w w8 n P M B0 B1 B2 B3 pi) (ha : IntsAt w8 pn [3]) (hb : IntsAt w8 pb [2]) :
    Fz w (w8.alloc (.cells #[.int .i64 0, .slice none 0 0, .int .i64 0, .int .i64 1, .slice pi 1 ci, .slice pn 1 cn, .slice pb 1 cb, .slice none 0 0] 27)) n P M B0 B1 B2 B3 w8.heap.size pi ci pn cn pb cb :=
  ⟨H.alloc _, ha.later (bal (Below.refl _ _) _), hb.later (bal (Below.refl _ _) _), by simp [go_sem], by simp [go_sem], by simp [go_sem], by simp [go_sem], by simp [go_sem], by simp [go_sem], by simp [go_sem], by simp [go_sem], fun i => by simp [go_sem], off_ne fun b off e => Nat.ne_of_lt (ints_lt ha b off e), off_ne fun b off e => Nat.ne_of_lt (ints_lt hb b off e), H.hs⟩
theorem Ez.set {w wr : World} {n P M B0 B1 B2 B3 blk : Nat} {pi : Option Addr} (H : Ez w wr n P M B0 B1 B2 B3 pi) (hb : n ≤ blk) (j : Nat) (v : Value) : Ez w (wr.setCell ⟨blk, j, none⟩ v) n P M B0 B1 B2 B3 pi := by
  obtain ⟨X, pv, cv, h1, h2, h3, h4, h5, h6, h7⟩ := H.g
  have hn := H.hn
  have hk : ∀ g, ¬ g = blk → g < wr.heap.size → (wr.setCell ⟨blk, j, none⟩ v).heap[g]? = wr.heap[g]? := fun g hg _ => Below.heap_setCell wr _ _ g (by simpa using hg)
  refine ⟨H.x.kept hk (by omega), ⟨X, pv, cv, kept_cell h1 hk (by simp; omega), kept_cell h2 hk (by simp; omega), kept_cell h3 hk (by simp; omega), h4, h5, h6, h7⟩, H.r.kept hk (by omega), ?_, H.li, H.bel.setCell (p := ⟨blk, j, none⟩) (by simp; omega) v, H.hn, by simpa using H.hs, H.hM, H.hMn⟩
  intro h0
  obtain ⟨b, off, e, hc⟩ := H.i h0
  exact ⟨b, off, e, fun i hi => kept_cell (hc i hi) hk (by have := (H.li b off e).2.1; simp; omega)⟩
/-- Eight cells of a block, set one behind another. -/
abbrev set8 (w8 : World) (blk : Nat) (v0 v1 v2 v3 v4 v5 v6 v7 : Value) : World := ((((((((w8.setCell ⟨blk, 0, none⟩ v0).setCell ⟨blk, 1, none⟩ v1).setCell ⟨blk, 2, none⟩ v2).setCell ⟨blk, 3, none⟩ v3).setCell ⟨blk, 4, none⟩ v4).setCell ⟨blk, 5, none⟩ v5).setCell ⟨blk, 6, none⟩ v6).setCell ⟨blk, 7, none⟩ v7)
theorem ints_set8 {w : World} {p : Option Addr} {x : Int} {h : Nat} (H : IntsAt w p [x]) (ho : Off p h) (v0 v1 v2 v3 v4 v5 v6 v7 : Value) : IntsAt (set8 w h v0 v1 v2 v3 v4 v5 v6 v7) p [x] :=
  ints_off (ints_off (ints_off (ints_off (ints_off (ints_off (ints_off (ints_off H ho (by omega) _) ho (by omega) _) ho (by omega) _) ho (by omega) _) ho (by omega) _) ho (by omega) _) ho (by omega) _) ho (by omega) _
theorem set8_cells {w : World} {h : Nat} (R : ResS h w) (v0 v1 v2 v3 v4 v5 v6 v7 : Value) :
    (set8 w h v0 v1 v2 v3 v4 v5 v6 v7).cell? ⟨h, 0, none⟩ = some v0 ∧ (set8 w h v0 v1 v2 v3 v4 v5 v6 v7).cell? ⟨h, 1, none⟩ = some v1 ∧ (set8 w h v0 v1 v2 v3 v4 v5 v6 v7).cell? ⟨h, 2, none⟩ = some v2 ∧ (set8 w h v0 v1 v2 v3 v4 v5 v6 v7).cell? ⟨h, 3, none⟩ = some v3 ∧ (set8 w h v0 v1 v2 v3 v4 v5 v6 v7).cell? ⟨h, 4, none⟩ = some v4 ∧ (set8 w h v0 v1 v2 v3 v4 v5 v6 v7).cell? ⟨h, 5, none⟩ = some v5 ∧ (set8 w h v0 v1 v2 v3 v4 v5 v6 v7).cell? ⟨h, 6, none⟩ = some v6 ∧ (set8 w h v0 v1 v2 v3 v4 v5 v6 v7).cell? ⟨h, 7, none⟩ = some v7 := by
  obtain ⟨z0, z1, z2, z3, z4, z5, z6, z7, _⟩ := R
  refine ⟨?_, ?_, ?_, ?_, ?_, ?_, ?_, ?_⟩ <;> simp [set8, go_sem, *]
theorem fz_set {w w8 : World} {n P M B0 B1 B2 B3 blk : Nat} {pi pn pb : Option Addr} {ci cn cb : Nat} (H : Ez w w8 n P M B0 B1 B2 B3 pi) (ha : IntsAt w8 pn [3]) (hb : IntsAt w8 pb [2]) (R : ResS blk w8) (hn : n ≤ blk) :
    Fz w (set8 w8 blk (.int .i64 0) (.slice none 0 0) (.int .i64 0) (.int .i64 1) (.slice pi 1 ci) (.slice pn 1 cn) (.slice pb 1 cb) (.slice none 0 0)) n P M B0 B1 B2 B3 blk pi ci pn cn pb cb := by
  obtain ⟨c0, c1, c2, c3, c4, c5, c6, c7⟩ := set8_cells R (.int .i64 0) (.slice none 0 0) (.int .i64 0) (.int .i64 1) (.slice pi 1 ci) (.slice pn 1 cn) (.slice pb 1 cb) (.slice none 0 0)
  have oa := off_of R ha (by decide)
  have ob := off_of R hb (by decide)
  exact ⟨((((((((H.set hn 0 _).set hn 1 _).set hn 2 _).set hn 3 _).set hn 4 _).set hn 5 _).set hn 6 _).set hn 7 _), ints_set8 ha oa _ _ _ _ _ _ _ _, ints_set8 hb ob _ _ _ _ _ _ _ _, c0, c1, c2, c3, c4, c5, c6, c7, fun i => by simp only [set8, World.frozen?_setCell]; exact R.zf i, oa, ob, hn⟩
end Go.Proofs.YtoanniogajeieabGreat
