/- What the toggle's circuit is made of. -/
import Derived.Test.YtjhkecnnhddhbaaGreatDoorBn
namespace Go.Proofs.YtjhkecnnhddhbaaGreatDoor.Ev
open Go.RowKit Go.Maps
set_option maxRecDepth 100000
set_option maxRecDepth 100000

theorem Bz.put {w w1 : World} {P M B0 G G2 : Nat} {D : DataW Unit} (h : Bz w P M B0 G 1 D) (hown : w1.ownsMap Tryz.prog 3 slR M 2 (D.put (.int .i64 2) (slD G2 0 1 1))) (hsz : w.heap.size ≤ w1.heap.size) (hk : ∀ g, ¬ g = M → g < w.heap.size → w1.heap[g]? = w.heap[g]?) :
    Bz w1 P M B0 G 2 (D.put (.int .i64 2) (slD G2 0 1 1)) :=
  ⟨kept_cell h.b1 hk h.nePM, kept_cell h.b2 hk h.nePM, hown, by rw [has_put_other (by simp)]; exact h.has1, by rw [atKey_put_other (by simp)]; exact h.at1, h.row.kept (hk _ h.neGM (World.block_lt_of_cell? _ _ (h.row 0 (by simp)).1)), Nat.lt_of_lt_of_le h.ltM hsz, h.nePM, h.neGM⟩
theorem Gz.kept {w w1 : World} {P M : Nat} (h : Gz w P M) (hk : ∀ g, ¬ g = M → g < w.heap.size → w1.heap[g]? = w.heap[g]?) : Gz w1 P M := by
  obtain ⟨X, pv, cv, h1, h2, h3, h4, h5⟩ := h.g
  exact ⟨X, pv, cv, kept_cell h1 hk h4, kept_cell h2 hk h5, kept_cell h3 hk h5, h4, h5⟩
theorem Gz.later {w w1 : World} {P M : Nat} (h : Gz w P M) (hb : Below w.heap.size w w1) : Gz w1 P M := h.kept (fun g _ hg => hb.block g hg)

/-- The bits that the state is next. -/
theorem allNexts_any (P M B0 G : Nat) (D : DataW Unit) (base : Nat) (hbM : base ≤ M) (p : Option Addr) (cap : Nat) (w : World) (h : Bz w P M B0 G 1 D) (h2 : Maps.has D (.int .i64 2) = false) (a2 : D.atKey (.int .i64 2) .nil = .nil) (hN : NodesAt w (some ⟨B0, 0, none⟩) tgN) (hI : IntsAt w p [2]) :
    Calls Tryz.prog 77 #[.pointer (some ⟨P, 0, none⟩), .slice p 1 cap] w fun e w' => ∃ q k D', e = .returned (.slice q 1 k) ∧ IntsAt w' q [3] ∧ Bz w' P M B0 G 2 D' ∧ Below base w w' ∧ ∀ g, ¬ g = M → g < w.heap.size → w'.heap[g]? = w.heap[g]? := by
  refine (all1_any P p cap 2 3 (fun w1 => (∃ D', Bz w1 P M B0 G 2 D') ∧ Below base w w1 ∧ ∀ g, ¬ g = M → g < w.heap.size → w1.heap[g]? = w.heap[g]?) w hI
    ((word2_any P M B0 G 1 D w (by omega) h h2 a2 hN base hbM).mono fun e w' ⟨G2, h1, _, h3, h4, h5, h6⟩ => ⟨G2, h1, h3, ⟨_, h.put h4 h5.size h6⟩, h5, h6⟩)).mono fun e w' ⟨q, k, w1, h1, h2, ⟨⟨D', hz⟩, hb, hk⟩, hb1⟩ => ?_
  have := h.ltM
  have hs := hb.size
  refine ⟨q, k, D', h1, h2, hz.later hb1, hb.trans (hb1.mono (by omega)), fun g h1 h2 => ?_⟩
  rw [hb1.block g (by omega)]
  exact hk g h1 h2
/-- The bits that are bad. -/
theorem allBads_any (P M B0 G n : Nat) (D : DataW Unit) (p : Option Addr) (cap : Nat) (w : World) (h : Bz w P M B0 G n D) (hI : IntsAt w p [1]) :
    Calls Tryz.prog 77 #[.pointer (some ⟨P, 0, none⟩), .slice p 1 cap] w fun e w' => ∃ q k, e = .returned (.slice q 1 k) ∧ IntsAt w' q [2] ∧ Below w.heap.size w w' := by
  refine (all1_any P p cap 1 2 (fun w1 => w1 = w) w hI
    ((word1_any P M B0 G n D w h).mono fun e w' ⟨h1, h2⟩ => ⟨G, h1, by rw [h2]; exact h.row, h2⟩)).mono fun e w' ⟨q, k, w1, h1, h2, h3, hb1⟩ => ?_
  subst h3
  exact ⟨q, k, h1, h2, hb1⟩

theorem tg_wok : Wok tgN := by unfold Wok; decide
theorem tg_in : sumW tgN (sel (isK tgN 2) tgN.length) = 0 := by decide
theorem tg_st : sumW tgN (sel (isK tgN 3) tgN.length) = 1 := by decide
theorem tg_nexts : (sel (isK tgN 3) tgN.length).map (lastV [(1, 2)]) = [2] := by decide

theorem nextOnesT_any (B0 B1 B2 B3 : Nat) (w : World) (hT : TgAt w B0 B1 B2 B3) :
    Calls Tryz.prog 78 #[Mv.val (tgM B0 B1 B2 B3) 3] w fun e w' => ∃ p cap, e = .returned (.slice p 1 cap) ∧ IntsAt w' p [2] ∧ Below w.heap.size w w' := by
  have h := nextOnes_any (some ⟨B0, 0, none⟩) (some ⟨B1, 0, none⟩) (some ⟨B2, 0, none⟩) (some ⟨B3, 0, none⟩) none 3 1 1 1 0 1 1 0 tgN [(1, 2)] (by decide) (by decide) (pairs_in (by decide)) w hT.n hT.x
  rw [tg_nexts] at h
  exact h
theorem bitsT2_any (B0 B1 B2 B3 : Nat) (w : World) (hT : TgAt w B0 B1 B2 B3) :
    Calls Tryz.prog 76 #[.slice (some ⟨B0, 0, none⟩) 3 3, .int .i64 2] w fun e w' => e = .returned (.int .i64 0) ∧ Below w.heap.size w w' := by
  have h := bitsOf_any (some ⟨B0, 0, none⟩) 3 tgN (by decide) tg_wok 2 w hT.n
  rw [tg_in] at h
  exact h
theorem bitsT3_any (B0 B1 B2 B3 : Nat) (w : World) (hT : TgAt w B0 B1 B2 B3) :
    Calls Tryz.prog 76 #[.slice (some ⟨B0, 0, none⟩) 3 3, .int .i64 3] w fun e w' => e = .returned (.int .i64 1) ∧ Below w.heap.size w w' := by
  have h := bitsOf_any (some ⟨B0, 0, none⟩) 3 tgN (by decide) tg_wok 3 w hT.n
  rw [tg_st] at h
  exact h
end Go.Proofs.YtjhkecnnhddhbaaGreatDoor.Ev
