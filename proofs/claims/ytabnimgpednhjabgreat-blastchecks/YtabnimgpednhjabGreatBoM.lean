/- The bits of a node of the toggle. -/
import Derived.Test.YtabnimgpednhjabGreatBl
import Derived.Test.YtabnimgpednhjabGreatMgM
namespace Go.Proofs.YtabnimgpednhjabGreat
open Go.RowKit Go.Maps
set_option maxRecDepth 100000

theorem Bz.later {w w1 : World} {P M B0 G n : Nat} {D : DataW Unit} (h : Bz w P M B0 G n D) (hb : Below w.heap.size w w1) : Bz w1 P M B0 G n D :=
  ⟨cell_later hb h.b1, cell_later hb h.b2, map_block h.own (hb.block _ h.ltM), h.has1, h.at1, h.row.kept (hb.block _ (World.block_lt_of_cell? _ _ (h.row 0 (by simp)).1)), Nat.lt_of_lt_of_le h.ltM hb.size, h.nePM, h.neGM⟩
theorem ops_not : opsL ⟨4, 1, 1, 0, 0, 0⟩ = [1] := by decide
theorem turn_two : [(2 : Int)].map Gg.turn = [3] := by decide
theorem two_small : ∀ x ∈ [(2 : Int)], 0 ≤ x ∧ x ≤ 10000000 := by decide
/-- The bits that are there already. -/
theorem word1_any (P M B0 G n : Nat) (D : DataW Unit) (w : World) (h : Bz w P M B0 G n D) :
    Calls Tryz.prog 60 #[.pointer (some ⟨P, 0, none⟩), .int .i64 1] w fun e w' => e = .returned (.slice (some ⟨G, 0, none⟩) 1 1) ∧ w' = w := by
  have c2 := h.b2
  have hl := look70_yes h.own (x := 1) (by decide) (by decide) h.has1 h.at1
  clear h
  go_enter Tryz.func60, Tryz.ntmps60
  go_wp2
  go_ret
  exact ⟨rfl, rfl⟩

set_option maxHeartbeats 4000000 in
/-- The bits of the third node, made of the second's. -/
theorem word2_any (P M B0 G n : Nat) (D : DataW Unit) (w : World) (hn : n < 1000) (h : Bz w P M B0 G n D) (h2 : Maps.has D (.int .i64 2) = false) (a2 : D.atKey (.int .i64 2) .nil = .nil) (hN : NodesAt w (some ⟨B0, 0, none⟩) tgN) (base : Nat) (hbM : base ≤ M) :
    Calls Tryz.prog 60 #[.pointer (some ⟨P, 0, none⟩), .int .i64 2] w fun e w' => ∃ G2, e = .returned (.slice (some ⟨G2, 0, none⟩) 1 1) ∧ w.heap.size ≤ G2 ∧ Gg.IRow w' G2 [3] ∧ w'.ownsMap Tryz.prog 3 slR M (n + 1) (D.put (.int .i64 2) (slD G2 0 1 1)) ∧ Below base w w' ∧ ∀ g, ¬ g = M → g < w.heap.size → w'.heap[g]? = w.heap[g]? := by
  have c1 := h.b1
  have c2 := h.b2
  have hl := look70_no h.own (x := 2) (by decide) (by decide) h2 a2
  have HZ := hide h
  obtain ⟨nb, no, hne, hnc⟩ := hN (by decide)
  cases hne
  have n1 := hnc 2 (by decide)
  simp [tgN] at n1
  obtain ⟨n0, n1, n2, n3, n4, n5⟩ := n1
  have HO := hide (fun w => operands_any ⟨4, 1, 1, 0, 0, 0⟩ w)
  rw [ops_not] at HO
  have hB0 : Below w.heap.size w ((w.alloc (.cells #[.int .i64 4, .int .i64 1, .int .i64 1, .int .i64 0, .int .i64 0, .int .i64 0] 53)).alloc (.cells #[.slice none 0 0, .slice none 0 0, .slice none 0 0] 116)) := bal (bal (Below.refl _ _) _) _
  clear h hnc hN
  go_enter Tryz.func60, Tryz.ntmps60
  go_wp2_with fail
  refine (HO.out _).mono ?_
  rintro e w1 ⟨p1, k1, rfl, hI1, hb1⟩
  have e0 := cell_later hb1 (a := ⟨w.heap.size, 0, none⟩) (v := .int .i64 4) (by simp [go_sem])
  have e1 := cell_later hb1 (a := ⟨w.heap.size, 1, none⟩) (v := .int .i64 1) (by simp [go_sem])
  have e2 := cell_later hb1 (a := ⟨w.heap.size, 2, none⟩) (v := .int .i64 1) (by simp [go_sem])
  have e3 := cell_later hb1 (a := ⟨w.heap.size, 3, none⟩) (v := .int .i64 0) (by simp [go_sem])
  have e4 := cell_later hb1 (a := ⟨w.heap.size, 4, none⟩) (v := .int .i64 0) (by simp [go_sem])
  have e5 := cell_later hb1 (a := ⟨w.heap.size, 5, none⟩) (v := .int .i64 0) (by simp [go_sem])
  have f0 := cell_later hb1 (a := ⟨w.heap.size + 1, 0, none⟩) (v := .slice none 0 0) (by simp [go_sem])
  have f1 := cell_later hb1 (a := ⟨w.heap.size + 1, 1, none⟩) (v := .slice none 0 0) (by simp [go_sem])
  have f2 := cell_later hb1 (a := ⟨w.heap.size + 1, 2, none⟩) (v := .slice none 0 0) (by simp [go_sem])
  have ff : w1.frozen? ⟨w.heap.size + 1, 0, none⟩ = false := by rw [hb1.frozen (by simp)]; simp [go_sem]
  have HB1 := hide (bthen hB0 hb1)
  have HI1 := hide hI1
  have hs1 : w.heap.size + 2 ≤ w1.heap.size := by have := hb1.size; simp at this; omega
  clear hB0 hb1 hI1 c1 c2 n0 n1 n2 n3 n4 n5 hl HO
  go_wp2
  go_loopw [33] (fun i wr => ∃ k : Nat, k ≤ 1 ∧ i = .int .i64 k ∧ ((k = 0 ∧ wr = w1) ∨ (k = 1 ∧ wr = w1.setCell ⟨w.heap.size + 1, 0, none⟩ (.slice (some ⟨G, 0, none⟩) 1 1)))) (fun i _ => 1 - (intOf i).toNat)
  case atStart => exact ⟨0, by omega, rfl, Or.inl ⟨rfl, rfl⟩⟩
  case round =>
    obtain ⟨k, hk, rfl, ⟨rfl, hw1⟩ | ⟨rfl, hw1⟩⟩ := hrel
    · subst hw1
      obtain ⟨b, off, rfl, hc⟩ := HI1.out (by simp)
      have hc0 : wr.cell? ⟨b, off, none⟩ = some (.int .i64 1) := by simpa using hc 0 (by simp)
      have HW := hide (word1_any P M B0 G n D wr (HZ.out.later HB1.out))
      clear hc
      go_wp2_with fail
      refine HW.out.mono ?_
      rintro e w2 ⟨rfl, hw2⟩
      subst hw2
      go_wp2
      go_roundw
      case rel => exact ⟨1, by omega, by go_num, Or.inr ⟨rfl, trivial⟩⟩
      case measure => simp [intOf]
    · have hMl := HZ.out.ltM
      have hGl : G < w.heap.size := World.block_lt_of_cell? _ _ (HZ.out.row 0 (by simp)).1
      have hrow := (HZ.out.later HB1.out).row.kept (Below.heap_setCell w1 ⟨w.heap.size + 1, 0, none⟩ (.slice (some ⟨G, 0, none⟩) 1 1) G (by simp; omega))
      rw [← hw1] at hrow
      have ce : ∀ a v, w1.cell? a = some v → ⟨w.heap.size + 1, 0, none⟩ ≠ a → wr.cell? a = some v := fun a v h hne => by rw [hw1, World.cell?_setCell_other w1 _ _ _ (by simpa using hne)]; exact h
      have p0 := ce _ _ e0 (by simp)
      have p1 := ce _ _ e1 (by simp)
      have p2 := ce _ _ e2 (by simp)
      have p3 := ce _ _ e3 (by simp)
      have p4 := ce _ _ e4 (by simp)
      have p5 := ce _ _ e5 (by simp)
      have r1 := ce _ _ f1 (by simp)
      have r2 := ce _ _ f2 (by simp)
      have r0 : wr.cell? ⟨w.heap.size + 1, 0, none⟩ = some (.slice (some ⟨G, 0, none⟩) 1 1) := by rw [hw1]; exact World.cell?_setCell_same w1 _ _ f0
      have HBW : Hid (Below w.heap.size w wr) := by rw [hw1]; exact HB1.out.setCell (p := ⟨w.heap.size + 1, 0, none⟩) (by simp) _
      have hsz : wr.heap.size = w1.heap.size := by rw [hw1]; simp
      have HT := hide (operateNot_any 1 1 0 0 0 [2] (some ⟨G, 0, none⟩) 1 none none 0 0 0 0 (some ⟨P, 0, none⟩) two_small (by simp) wr (Gg.irow_ints hrow))
      rw [turn_two] at HT
      clear ce e0 e1 e2 e3 e4 e5 f0 f1 f2 ff hw1 hrow HB1 HI1
      go_wp2_with fail
      refine HT.out.mono ?_
      rintro e w5 ⟨G2, rfl, hG2, hr2, hb5⟩
      have HZ5 := hide (HZ.out.later (bthen HBW.out hb5))
      have s2 := HZ5.out.b2
      obtain ⟨w6, hput, hown6, hg6⟩ := put70 HZ5.out.own (by omega) (x := 2) (by decide) (by decide) G2 0 1 1
      have HR2 := hide hr2
      have HB5 := hide (bthen HBW.out hb5)
      have HG6 := hide hg6
      have HO6 := hide hown6
      clear hr2 hb5 hg6 hown6 p0 p1 p2 p3 p4 p5 r0 r1 r2 HT HZ HBW
      go_wp2
      go_ret
      have hs5 := HB5.out.size
      have hne : ¬ G2 = M := by omega
      refine ⟨G2, rfl, by omega, HR2.out.kept (HG6.out.block G2 (World.block_lt_of_cell? _ _ (HR2.out 0 (by simp)).1) (by simpa using hne)), HO6.out, ?_, ?_⟩
      · exact (HB5.out.mono (by omega)).grown HG6.out (by omega) (fun j hj => by cases hj; omega)
      · intro g h1 h2
        rw [HG6.out.block g (Nat.lt_of_lt_of_le h2 HB5.out.size) (by simpa using h1)]
        exact HB5.out.block g h2
end Go.Proofs.YtabnimgpednhjabGreat

namespace Go.Proofs.YtabnimgpednhjabGreat
open Go.RowKit Go.Maps
set_option maxRecDepth 100000

theorem all0_any (P : Nat) (p : Option Addr) (cap : Nat) (w : World) :
    Calls Tryz.prog 35 #[.pointer (some ⟨P, 0, none⟩), .slice p 0 cap] w fun e w' => e = .returned (.slice none 0 0) ∧ w' = w := by
  go_enter Tryz.func35, Tryz.ntmps35
  go_wp2
  go_loopw [5, 10] (fun v i wr => v = .slice none 0 0 ∧ i = .int .i64 0 ∧ wr = w) (fun _ _ _ => 0)
  case atStart => exact ⟨rfl, rfl, rfl⟩
  case round =>
    obtain ⟨rfl, rfl, rfl⟩ := hrel
    go_wp2
    go_ret
    exact ⟨rfl, rfl⟩

set_option maxHeartbeats 4000000 in
theorem all1_any (P : Nat) (p : Option Addr) (cap : Nat) (x y : Int) (Q : World → Prop) (w : World) (hI : IntsAt w p [x])
    (hW : Calls Tryz.prog 60 #[.pointer (some ⟨P, 0, none⟩), .int .i64 x] w fun e w' => ∃ G2, e = .returned (.slice (some ⟨G2, 0, none⟩) 1 1) ∧ Gg.IRow w' G2 [y] ∧ Q w') :
    Calls Tryz.prog 35 #[.pointer (some ⟨P, 0, none⟩), .slice p 1 cap] w fun e w' => ∃ q k w1, e = .returned (.slice q 1 k) ∧ IntsAt w' q [y] ∧ Q w1 ∧ Below w1.heap.size w1 w' := by
  have HW := hide hW
  clear hW
  obtain ⟨b, off, rfl, hc⟩ := hI (by simp)
  have hc0 : w.cell? ⟨b, off, none⟩ = some (.int .i64 x) := by simpa using hc 0 (by simp)
  clear hc hI
  go_enter Tryz.func35, Tryz.ntmps35
  go_wp2
  go_loopw [5, 10] (fun v i wr => ∃ j : Nat, j ≤ 1 ∧ i = .int .i64 j ∧ ((j = 0 ∧ v = .slice none 0 0 ∧ wr = w) ∨ (j = 1 ∧ Hid (∃ q k w1, v = .slice q 1 k ∧ IntsAt wr q [y] ∧ Q w1 ∧ Below w1.heap.size w1 wr)))) (fun _ i _ => 1 - (intOf i).toNat)
  case atStart => exact ⟨0, by omega, rfl, Or.inl ⟨rfl, rfl, rfl⟩⟩
  case round =>
    obtain ⟨j, hj, rfl, ⟨rfl, rfl, hw1⟩ | ⟨rfl, HR⟩⟩ := hrel
    · subst hw1
      go_wp2_with fail
      refine HW.out.mono ?_
      rintro e w1 ⟨G2, rfl, hr, hq⟩
      have HRG := hide (Gg.irow_ints hr)
      have HQ := hide hq
      have HO : Hid (w1.ownsRow w1.heap.size 3 1 (.slice none 0 0) ([] : List Int).length (([] : List Int).map (Value.int .i64))) := World.ownsRow_nil _ _ _ _
      clear hr hq
      go_wp2_with (at_builtin; refine Gg.wpList_append_ints rfl _ _ rfl w1.heap.size _ [] [y] rfl HO.out _ _ rfl HRG.out (fun h => by cases h) (by simp) (by omega) ?_)
      intro v' w6 hown6 hg6
      obtain ⟨q, k, rfl, hiv, _⟩ := Gg.owns_ints (l := [y]) hown6
      have HS : Hid (∃ q' k' w1, (Value.slice q 1 k) = .slice q' 1 k' ∧ IntsAt w6 q' [y] ∧ Q w1 ∧ Below w1.heap.size w1 w6) := ⟨q, k, w1, rfl, hiv, HQ.out, (Below.refl _ _).grown hg6 (Nat.le_refl _) (fun j hj => by cases hj)⟩
      clear hown6 hg6 hiv
      go_wp2
      go_roundw
      case rel => exact ⟨1, by omega, by go_num, Or.inr ⟨rfl, HS⟩⟩
      case measure => simp [intOf]
    · obtain ⟨q, k, w1, rfl, hi, hq, hb⟩ := HR.out
      have HX := hide (And.intro hi (And.intro hq hb))
      clear hi hq hb
      go_wp2
      go_ret
      exact ⟨q, k, w1, rfl, HX.out.1, HX.out.2.1, HX.out.2.2⟩
end Go.Proofs.YtabnimgpednhjabGreat

namespace Go.Proofs.YtabnimgpednhjabGreat
open Go.RowKit Go.Maps
set_option maxRecDepth 100000

theorem Bz.put {w w1 : World} {P M B0 G G2 : Nat} {D : DataW Unit} (h : Bz w P M B0 G 1 D) (hown : w1.ownsMap Tryz.prog 3 slR M 2 (D.put (.int .i64 2) (slD G2 0 1 1))) (hsz : w.heap.size ≤ w1.heap.size) (hk : ∀ g, ¬ g = M → g < w.heap.size → w1.heap[g]? = w.heap[g]?) :
    Bz w1 P M B0 G 2 (D.put (.int .i64 2) (slD G2 0 1 1)) :=
  ⟨kept_cell h.b1 hk h.nePM, kept_cell h.b2 hk h.nePM, hown, by rw [has_put_other (by simp)]; exact h.has1, by rw [atKey_put_other (by simp)]; exact h.at1, h.row.kept (hk _ h.neGM (World.block_lt_of_cell? _ _ (h.row 0 (by simp)).1)), Nat.lt_of_lt_of_le h.ltM hsz, h.nePM, h.neGM⟩
theorem Gz.kept {w w1 : World} {P M : Nat} (h : Gz w P M) (hk : ∀ g, ¬ g = M → g < w.heap.size → w1.heap[g]? = w.heap[g]?) : Gz w1 P M := by
  obtain ⟨X, pv, cv, h1, h2, h3, h4, h5⟩ := h.g
  exact ⟨X, pv, cv, kept_cell h1 hk h4, kept_cell h2 hk h5, kept_cell h3 hk h5, h4, h5⟩
theorem Gz.later {w w1 : World} {P M : Nat} (h : Gz w P M) (hb : Below w.heap.size w w1) : Gz w1 P M := h.kept (fun g _ hg => hb.block g hg)

/-- The bits that the state is next. -/
theorem allNexts_any (P M B0 G : Nat) (D : DataW Unit) (base : Nat) (hbM : base ≤ M) (p : Option Addr) (cap : Nat) (w : World) (h : Bz w P M B0 G 1 D) (h2 : Maps.has D (.int .i64 2) = false) (a2 : D.atKey (.int .i64 2) .nil = .nil) (hN : NodesAt w (some ⟨B0, 0, none⟩) tgN) (hI : IntsAt w p [2]) :
    Calls Tryz.prog 35 #[.pointer (some ⟨P, 0, none⟩), .slice p 1 cap] w fun e w' => ∃ q k D', e = .returned (.slice q 1 k) ∧ IntsAt w' q [3] ∧ Bz w' P M B0 G 2 D' ∧ Below base w w' ∧ ∀ g, ¬ g = M → g < w.heap.size → w'.heap[g]? = w.heap[g]? := by
  refine (all1_any P p cap 2 3 (fun w1 => (∃ D', Bz w1 P M B0 G 2 D') ∧ Below base w w1 ∧ ∀ g, ¬ g = M → g < w.heap.size → w1.heap[g]? = w.heap[g]?) w hI
    ((word2_any P M B0 G 1 D w (by omega) h h2 a2 hN base hbM).mono fun e w' ⟨G2, h1, _, h3, h4, h5, h6⟩ => ⟨G2, h1, h3, ⟨_, h.put h4 h5.size h6⟩, h5, h6⟩)).mono fun e w' ⟨q, k, w1, h1, h2, ⟨⟨D', hz⟩, hb, hk⟩, hb1⟩ => ?_
  have := h.ltM
  have hs := hb.size
  refine ⟨q, k, D', h1, h2, hz.later hb1, hb.trans (hb1.mono (by omega)), fun g h1 h2 => ?_⟩
  rw [hb1.block g (by omega)]
  exact hk g h1 h2
/-- The bits that are bad. -/
theorem allBads_any (P M B0 G n : Nat) (D : DataW Unit) (p : Option Addr) (cap : Nat) (w : World) (h : Bz w P M B0 G n D) (hI : IntsAt w p [1]) :
    Calls Tryz.prog 35 #[.pointer (some ⟨P, 0, none⟩), .slice p 1 cap] w fun e w' => ∃ q k, e = .returned (.slice q 1 k) ∧ IntsAt w' q [2] ∧ Below w.heap.size w w' := by
  refine (all1_any P p cap 1 2 (fun w1 => w1 = w) w hI
    ((word1_any P M B0 G n D w h).mono fun e w' ⟨h1, h2⟩ => ⟨G, h1, by rw [h2]; exact h.row, h2⟩)).mono fun e w' ⟨q, k, w1, h1, h2, h3, hb1⟩ => ?_
  subst h3
  exact ⟨q, k, h1, h2, hb1⟩

theorem tg_wok : Wok tgN := by unfold Wok; decide
theorem tg_in : sumW tgN (sel (isK tgN 2) tgN.length) = 0 := by decide
theorem tg_st : sumW tgN (sel (isK tgN 3) tgN.length) = 1 := by decide
theorem tg_nexts : (sel (isK tgN 3) tgN.length).map (lastV [(1, 2)]) = [2] := by decide

theorem nextOnesT_any (B0 B1 B2 B3 : Nat) (w : World) (hT : TgAt w B0 B1 B2 B3) :
    Calls Tryz.prog 36 #[Mv.val (tgM B0 B1 B2 B3) 3] w fun e w' => ∃ p cap, e = .returned (.slice p 1 cap) ∧ IntsAt w' p [2] ∧ Below w.heap.size w w' := by
  have h := nextOnes_any (some ⟨B0, 0, none⟩) (some ⟨B1, 0, none⟩) (some ⟨B2, 0, none⟩) (some ⟨B3, 0, none⟩) none 3 1 1 1 0 1 1 0 tgN [(1, 2)] (by decide) (by decide) (pairs_in (by decide)) w hT.n hT.x
  rw [tg_nexts] at h
  exact h
theorem bitsT2_any (B0 B1 B2 B3 : Nat) (w : World) (hT : TgAt w B0 B1 B2 B3) :
    Calls Tryz.prog 34 #[.slice (some ⟨B0, 0, none⟩) 3 3, .int .i64 2] w fun e w' => e = .returned (.int .i64 0) ∧ Below w.heap.size w w' := by
  have h := bitsOf_any (some ⟨B0, 0, none⟩) 3 tgN (by decide) tg_wok 2 w hT.n
  rw [tg_in] at h
  exact h
theorem bitsT3_any (B0 B1 B2 B3 : Nat) (w : World) (hT : TgAt w B0 B1 B2 B3) :
    Calls Tryz.prog 34 #[.slice (some ⟨B0, 0, none⟩) 3 3, .int .i64 3] w fun e w' => e = .returned (.int .i64 1) ∧ Below w.heap.size w w' := by
  have h := bitsOf_any (some ⟨B0, 0, none⟩) 3 tgN (by decide) tg_wok 3 w hT.n
  rw [tg_st] at h
  exact h
end Go.Proofs.YtabnimgpednhjabGreat
