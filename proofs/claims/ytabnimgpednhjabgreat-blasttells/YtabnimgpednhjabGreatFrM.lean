import Derived.Test.YtabnimgpednhjabGreatFlM
import Derived.Test.YtabnimgpednhjabGreatMg
import Derived.Test.YtabnimgpednhjabGreatFoM
namespace Go.Proofs.YtabnimgpednhjabGreat
open Go.RowKit Go.Maps
set_option maxRecDepth 100000
theorem Bz.later {w w1 : World} {P M B0 G n : Nat} {D : DataW Unit} (h : Bz w P M B0 G n D) (hb : Below w.heap.size w w1) : Bz w1 P M B0 G n D :=
 ⟨cell_later hb h.b1, cell_later hb h.b2, map_block h.own (hb.block _ h.ltM), h.has1, h.at1, h.row.kept (hb.block _ (World.block_lt_of_cell? _ _ (h.row 0 (by simp)).1)), Nat.lt_of_lt_of_le h.ltM hb.size, h.nePM, h.neGM⟩
theorem ops_not : opsL ⟨4, 1, 1, 0, 0, 0⟩ = [1] := by decide
theorem turn_two : [(2 : Int)].map Gg.turn = [3] := by decide
theorem two_small : ∀ x ∈ [(2 : Int)], 0 ≤ x ∧ x ≤ 10000000 := by decide
theorem word1_any (P M B0 G n : Nat) (D : DataW Unit) (w : World) (h : Bz w P M B0 G n D) :
   Calls Tryz.prog 60 #[.pointer (some ⟨P, 0, none⟩), .int .i64 1] w fun e w' => e = .returned (.slice (some ⟨G, 0, none⟩) 1 1) ∧ w' = w := by
 have c2 := h.b2
 have hl := look70_yes h.own (x := 1) (by decide) (by decide) h.has1 h.at1
 clear h
 go_enter Tryz.func60, Tryz.ntmps60
 go_wp2
 go_ret
 exact ⟨rfl, rfl⟩
set_option maxHeartbeats 4000000 in
theorem word2_any (P M B0 G n : Nat) (D : DataW Unit) (w : World) (hn : n < 1000) (h : Bz w P M B0 G n D) (h2 : Maps.has D (.int .i64 2) = false) (a2 : D.atKey (.int .i64 2) .nil = .nil) (hN : NodesAt w (some ⟨B0, 0, none⟩) tgN) (base : Nat) (hbM : base ≤ M) :
   Calls Tryz.prog 60 #[.pointer (some ⟨P, 0, none⟩), .int .i64 2] w fun e w' => ∃ G2, e = .returned (.slice (some ⟨G2, 0, none⟩) 1 1) ∧ w.heap.size ≤ G2 ∧ Gg.IRow w' G2 [3] ∧ w'.ownsMap Tryz.prog 3 slR M (n + 1) (D.put (.int .i64 2) (slD G2 0 1 1)) ∧ Below base w w' ∧ ∀ g, ¬ g = M → g < w.heap.size → w'.heap[g]? = w.heap[g]? := by
 have c1 := h.b1
 have c2 := h.b2
 have hl := look70_no h.own (x := 2) (by decide) (by decide) h2 a2
 have HZ := hide h
 obtain ⟨nb, no, hne, hnc⟩ := hN (by decide)
 cases hne
 have n1 := hnc 2 (by decide)
 simp [tgN] at n1
 obtain ⟨n0, n1, n2, n3, n4, n5⟩ := n1
 have HO := hide (fun w => operands_any ⟨4, 1, 1, 0, 0, 0⟩ w)
 rw [ops_not] at HO
 have hB0 : Below w.heap.size w ((w.alloc (.cells #[.int .i64 4, .int .i64 1, .int .i64 1, .int .i64 0, .int .i64 0, .int .i64 0] 53)).alloc (.cells #[.slice none 0 0, .slice none 0 0, .slice none 0 0] 116)) := bal (bal (Below.refl _ _) _) _
 clear h hnc hN
 go_enter Tryz.func60, Tryz.ntmps60
 go_wp2_with fail
 refine (HO.out _).mono ?_
 rintro e w1 ⟨p1, k1, rfl, hI1, hb1⟩
 have e0 := cell_later hb1 (a := ⟨w.heap.size, 0, none⟩) (v := .int .i64 4) (by simp [go_sem])
 have e1 := cell_later hb1 (a := ⟨w.heap.size, 1, none⟩) (v := .int .i64 1) (by simp [go_sem])
 have e2 := cell_later hb1 (a := ⟨w.heap.size, 2, none⟩) (v := .int .i64 1) (by simp [go_sem])
 have e3 := cell_later hb1 (a := ⟨w.heap.size, 3, none⟩) (v := .int .i64 0) (by simp [go_sem])
 have e4 := cell_later hb1 (a := ⟨w.heap.size, 4, none⟩) (v := .int .i64 0) (by simp [go_sem])
 have e5 := cell_later hb1 (a := ⟨w.heap.size, 5, none⟩) (v := .int .i64 0) (by simp [go_sem])
 have f0 := cell_later hb1 (a := ⟨w.heap.size + 1, 0, none⟩) (v := .slice none 0 0) (by simp [go_sem])
 have f1 := cell_later hb1 (a := ⟨w.heap.size + 1, 1, none⟩) (v := .slice none 0 0) (by simp [go_sem])
 have f2 := cell_later hb1 (a := ⟨w.heap.size + 1, 2, none⟩) (v := .slice none 0 0) (by simp [go_sem])
 have ff : w1.frozen? ⟨w.heap.size + 1, 0, none⟩ = false := by rw [hb1.frozen (by simp)]; simp [go_sem]
 have HB1 := hide (bthen hB0 hb1)
 have HI1 := hide hI1
 have hs1 : w.heap.size + 2 ≤ w1.heap.size := by have := hb1.size; simp at this; omega
 clear hB0 hb1 hI1 c1 c2 n0 n1 n2 n3 n4 n5 hl HO
 go_wp2
 go_loopw [33] (fun i wr => ∃ k : Nat, k ≤ 1 ∧ i = .int .i64 k ∧ ((k = 0 ∧ wr = w1) ∨ (k = 1 ∧ wr = w1.setCell ⟨w.heap.size + 1, 0, none⟩ (.slice (some ⟨G, 0, none⟩) 1 1)))) (fun i _ => 1 - (intOf i).toNat)
 case atStart => exact ⟨0, by omega, rfl, Or.inl ⟨rfl, rfl⟩⟩
 case round =>
   obtain ⟨k, hk, rfl, ⟨rfl, hw1⟩ | ⟨rfl, hw1⟩⟩ := hrel
   · subst hw1
     obtain ⟨b, off, rfl, hc⟩ := HI1.out (by simp)
     have hc0 : wr.cell? ⟨b, off, none⟩ = some (.int .i64 1) := by simpa using hc 0 (by simp)
     have HW := hide (word1_any P M B0 G n D wr (HZ.out.later HB1.out))
     clear hc
     go_wp2_with fail
     refine HW.out.mono ?_
     rintro e w2 ⟨rfl, hw2⟩
     subst hw2
     go_wp2
     go_roundw
     case rel => exact ⟨1, by omega, by go_num, Or.inr ⟨rfl, trivial⟩⟩
     case measure => simp [intOf]
   · have hMl := HZ.out.ltM
     have hGl : G < w.heap.size := World.block_lt_of_cell? _ _ (HZ.out.row 0 (by simp)).1
     have hrow := (HZ.out.later HB1.out).row.kept (Below.heap_setCell w1 ⟨w.heap.size + 1, 0, none⟩ (.slice (some ⟨G, 0, none⟩) 1 1) G (by simp; omega))
     rw [← hw1] at hrow
     have ce : ∀ a v, w1.cell? a = some v → ⟨w.heap.size + 1, 0, none⟩ ≠ a → wr.cell? a = some v := fun a v h hne => by rw [hw1, World.cell?_setCell_other w1 _ _ _ (by simpa using hne)]; exact h
     have p0 := ce _ _ e0 (by simp)
     have p1 := ce _ _ e1 (by simp)
     have p2 := ce _ _ e2 (by simp)
     have p3 := ce _ _ e3 (by simp)
     have p4 := ce _ _ e4 (by simp)
     have p5 := ce _ _ e5 (by simp)
     have r1 := ce _ _ f1 (by simp)
     have r2 := ce _ _ f2 (by simp)
     have r0 : wr.cell? ⟨w.heap.size + 1, 0, none⟩ = some (.slice (some ⟨G, 0, none⟩) 1 1) := by rw [hw1]; exact World.cell?_setCell_same w1 _ _ f0
     have HBW : Hid (Below w.heap.size w wr) := by rw [hw1]; exact HB1.out.setCell (p := ⟨w.heap.size + 1, 0, none⟩) (by simp) _
     have hsz : wr.heap.size = w1.heap.size := by rw [hw1]; simp
     have HT := hide (operateNot_any 1 1 0 0 0 [2] (some ⟨G, 0, none⟩) 1 none none 0 0 0 0 (some ⟨P, 0, none⟩) two_small (by simp) wr (Gg.irow_ints hrow))
     rw [turn_two] at HT
     clear ce e0 e1 e2 e3 e4 e5 f0 f1 f2 ff hw1 hrow HB1 HI1
     go_wp2_with fail
     refine HT.out.mono ?_
     rintro e w5 ⟨G2, rfl, hG2, hr2, hb5⟩
     have HZ5 := hide (HZ.out.later (bthen HBW.out hb5))
     have s2 := HZ5.out.b2
     obtain ⟨w6, hput, hown6, hg6⟩ := put70 HZ5.out.own (by omega) (x := 2) (by decide) (by decide) G2 0 1 1
     have HR2 := hide hr2
     have HB5 := hide (bthen HBW.out hb5)
     have HG6 := hide hg6
     have HO6 := hide hown6
     clear hr2 hb5 hg6 hown6 p0 p1 p2 p3 p4 p5 r0 r1 r2 HT HZ HBW
     go_wp2
     go_ret
     have hs5 := HB5.out.size
     have hne : ¬ G2 = M := by omega
     refine ⟨G2, rfl, by omega, HR2.out.kept (HG6.out.block G2 (World.block_lt_of_cell? _ _ (HR2.out 0 (by simp)).1) (by simpa using hne)), HO6.out, ?_, ?_⟩
     · exact (HB5.out.mono (by omega)).grown HG6.out (by omega) (fun j hj => by cases hj; omega)
     · intro g h1 h2
       rw [HG6.out.block g (Nat.lt_of_lt_of_le h2 HB5.out.size) (by simpa using h1)]
       exact HB5.out.block g h2
end Go.Proofs.YtabnimgpednhjabGreat

namespace Go.Proofs.YtabnimgpednhjabGreat
open Go.RowKit Go.Maps
set_option maxRecDepth 100000
theorem all0_any (P : Nat) (p : Option Addr) (cap : Nat) (w : World) :
   Calls Tryz.prog 35 #[.pointer (some ⟨P, 0, none⟩), .slice p 0 cap] w fun e w' => e = .returned (.slice none 0 0) ∧ w' = w := by
 go_enter Tryz.func35, Tryz.ntmps35
 go_wp2
 go_loopw [5, 10] (fun v i wr => v = .slice none 0 0 ∧ i = .int .i64 0 ∧ wr = w) (fun _ _ _ => 0)
 case atStart => exact ⟨rfl, rfl, rfl⟩
 case round =>
   obtain ⟨rfl, rfl, rfl⟩ := hrel
   go_wp2
   go_ret
   exact ⟨rfl, rfl⟩
set_option maxHeartbeats 4000000 in
theorem all1_any (P : Nat) (p : Option Addr) (cap : Nat) (x y : Int) (Q : World → Prop) (w : World) (hI : IntsAt w p [x])
   (hW : Calls Tryz.prog 60 #[.pointer (some ⟨P, 0, none⟩), .int .i64 x] w fun e w' => ∃ G2, e = .returned (.slice (some ⟨G2, 0, none⟩) 1 1) ∧ Gg.IRow w' G2 [y] ∧ Q w') :
   Calls Tryz.prog 35 #[.pointer (some ⟨P, 0, none⟩), .slice p 1 cap] w fun e w' => ∃ q k w1, e = .returned (.slice q 1 k) ∧ IntsAt w' q [y] ∧ Q w1 ∧ Below w1.heap.size w1 w' := by
 have HW := hide hW
 clear hW
 obtain ⟨b, off, rfl, hc⟩ := hI (by simp)
 have hc0 : w.cell? ⟨b, off, none⟩ = some (.int .i64 x) := by simpa using hc 0 (by simp)
 clear hc hI
 go_enter Tryz.func35, Tryz.ntmps35
 go_wp2
 go_loopw [5, 10] (fun v i wr => ∃ j : Nat, j ≤ 1 ∧ i = .int .i64 j ∧ ((j = 0 ∧ v = .slice none 0 0 ∧ wr = w) ∨ (j = 1 ∧ Hid (∃ q k w1, v = .slice q 1 k ∧ IntsAt wr q [y] ∧ Q w1 ∧ Below w1.heap.size w1 wr)))) (fun _ i _ => 1 - (intOf i).toNat)
 case atStart => exact ⟨0, by omega, rfl, Or.inl ⟨rfl, rfl, rfl⟩⟩
 case round =>
   obtain ⟨j, hj, rfl, ⟨rfl, rfl, hw1⟩ | ⟨rfl, HR⟩⟩ := hrel
   · subst hw1
     go_wp2_with fail
     refine HW.out.mono ?_
     rintro e w1 ⟨G2, rfl, hr, hq⟩
     have HRG := hide (Gg.irow_ints hr)
     have HQ := hide hq
     have HO : Hid (w1.ownsRow w1.heap.size 3 1 (.slice none 0 0) ([] : List Int).length (([] : List Int).map (Value.int .i64))) := World.ownsRow_nil _ _ _ _
     clear hr hq
     go_wp2_with (at_builtin; refine Gg.wpList_append_ints rfl _ _ rfl w1.heap.size _ [] [y] rfl HO.out _ _ rfl HRG.out (fun h => by cases h) (by simp) (by omega) ?_)
     intro v' w6 hown6 hg6
     obtain ⟨q, k, rfl, hiv, _⟩ := Gg.owns_ints (l := [y]) hown6
     have HS : Hid (∃ q' k' w1, (Value.slice q 1 k) = .slice q' 1 k' ∧ IntsAt w6 q' [y] ∧ Q w1 ∧ Below w1.heap.size w1 w6) := ⟨q, k, w1, rfl, hiv, HQ.out, (Below.refl _ _).grown hg6 (Nat.le_refl _) (fun j hj => by cases hj)⟩
     clear hown6 hg6 hiv
     go_wp2
     go_roundw
     case rel => exact ⟨1, by omega, by go_num, Or.inr ⟨rfl, HS⟩⟩
     case measure => simp [intOf]
   · obtain ⟨q, k, w1, rfl, hi, hq, hb⟩ := HR.out
     have HX := hide (And.intro hi (And.intro hq hb))
     clear hi hq hb
     go_wp2
     go_ret
     exact ⟨q, k, w1, rfl, HX.out.1, HX.out.2.1, HX.out.2.2⟩
end Go.Proofs.YtabnimgpednhjabGreat

namespace Go.Proofs.YtabnimgpednhjabGreat
open Go.RowKit Go.Maps
set_option maxRecDepth 100000
theorem Bz.put {w w1 : World} {P M B0 G G2 : Nat} {D : DataW Unit} (h : Bz w P M B0 G 1 D) (hown : w1.ownsMap Tryz.prog 3 slR M 2 (D.put (.int .i64 2) (slD G2 0 1 1))) (hsz : w.heap.size ≤ w1.heap.size) (hk : ∀ g, ¬ g = M → g < w.heap.size → w1.heap[g]? = w.heap[g]?) :
   Bz w1 P M B0 G 2 (D.put (.int .i64 2) (slD G2 0 1 1)) :=
 ⟨kept_cell h.b1 hk h.nePM, kept_cell h.b2 hk h.nePM, hown, by rw [has_put_other (by simp)]; exact h.has1, by rw [atKey_put_other (by simp)]; exact h.at1, h.row.kept (hk _ h.neGM (World.block_lt_of_cell? _ _ (h.row 0 (by simp)).1)), Nat.lt_of_lt_of_le h.ltM hsz, h.nePM, h.neGM⟩
theorem Gz.kept {w w1 : World} {P M : Nat} (h : Gz w P M) (hk : ∀ g, ¬ g = M → g < w.heap.size → w1.heap[g]? = w.heap[g]?) : Gz w1 P M := by
 obtain ⟨X, pv, cv, h1, h2, h3, h4, h5⟩ := h.g
 exact ⟨X, pv, cv, kept_cell h1 hk h4, kept_cell h2 hk h5, kept_cell h3 hk h5, h4, h5⟩
theorem Gz.later {w w1 : World} {P M : Nat} (h : Gz w P M) (hb : Below w.heap.size w w1) : Gz w1 P M := h.kept (fun g _ hg => hb.block g hg)
theorem allNexts_any (P M B0 G : Nat) (D : DataW Unit) (base : Nat) (hbM : base ≤ M) (p : Option Addr) (cap : Nat) (w : World) (h : Bz w P M B0 G 1 D) (h2 : Maps.has D (.int .i64 2) = false) (a2 : D.atKey (.int .i64 2) .nil = .nil) (hN : NodesAt w (some ⟨B0, 0, none⟩) tgN) (hI : IntsAt w p [2]) :
   Calls Tryz.prog 35 #[.pointer (some ⟨P, 0, none⟩), .slice p 1 cap] w fun e w' => ∃ q k D', e = .returned (.slice q 1 k) ∧ IntsAt w' q [3] ∧ Bz w' P M B0 G 2 D' ∧ Below base w w' ∧ ∀ g, ¬ g = M → g < w.heap.size → w'.heap[g]? = w.heap[g]? := by
 refine (all1_any P p cap 2 3 (fun w1 => (∃ D', Bz w1 P M B0 G 2 D') ∧ Below base w w1 ∧ ∀ g, ¬ g = M → g < w.heap.size → w1.heap[g]? = w.heap[g]?) w hI
   ((word2_any P M B0 G 1 D w (by omega) h h2 a2 hN base hbM).mono fun e w' ⟨G2, h1, _, h3, h4, h5, h6⟩ => ⟨G2, h1, h3, ⟨_, h.put h4 h5.size h6⟩, h5, h6⟩)).mono fun e w' ⟨q, k, w1, h1, h2, ⟨⟨D', hz⟩, hb, hk⟩, hb1⟩ => ?_
 have := h.ltM
 have hs := hb.size
 refine ⟨q, k, D', h1, h2, hz.later hb1, hb.trans (hb1.mono (by omega)), fun g h1 h2 => ?_⟩
 rw [hb1.block g (by omega)]
 exact hk g h1 h2
theorem allBads_any (P M B0 G n : Nat) (D : DataW Unit) (p : Option Addr) (cap : Nat) (w : World) (h : Bz w P M B0 G n D) (hI : IntsAt w p [1]) :
   Calls Tryz.prog 35 #[.pointer (some ⟨P, 0, none⟩), .slice p 1 cap] w fun e w' => ∃ q k, e = .returned (.slice q 1 k) ∧ IntsAt w' q [2] ∧ Below w.heap.size w w' := by
 refine (all1_any P p cap 1 2 (fun w1 => w1 = w) w hI
   ((word1_any P M B0 G n D w h).mono fun e w' ⟨h1, h2⟩ => ⟨G, h1, by rw [h2]; exact h.row, h2⟩)).mono fun e w' ⟨q, k, w1, h1, h2, h3, hb1⟩ => ?_
 subst h3
 exact ⟨q, k, h1, h2, hb1⟩
theorem tg_wok : Wok tgN := by unfold Wok; decide
theorem tg_in : sumW tgN (sel (isK tgN 2) tgN.length) = 0 := by decide
theorem tg_st : sumW tgN (sel (isK tgN 3) tgN.length) = 1 := by decide
theorem tg_nexts : (sel (isK tgN 3) tgN.length).map (lastV [(1, 2)]) = [2] := by decide
theorem nextOnesT_any (B0 B1 B2 B3 : Nat) (w : World) (hT : TgAt w B0 B1 B2 B3) :
   Calls Tryz.prog 36 #[Mv.val (tgM B0 B1 B2 B3) 3] w fun e w' => ∃ p cap, e = .returned (.slice p 1 cap) ∧ IntsAt w' p [2] ∧ Below w.heap.size w w' := by
 have h := nextOnes_any (some ⟨B0, 0, none⟩) (some ⟨B1, 0, none⟩) (some ⟨B2, 0, none⟩) (some ⟨B3, 0, none⟩) none 3 1 1 1 0 1 1 0 tgN [(1, 2)] (by decide) (by decide) (pairs_in (by decide)) w hT.n hT.x
 rw [tg_nexts] at h
 exact h
theorem bitsT2_any (B0 B1 B2 B3 : Nat) (w : World) (hT : TgAt w B0 B1 B2 B3) :
   Calls Tryz.prog 34 #[.slice (some ⟨B0, 0, none⟩) 3 3, .int .i64 2] w fun e w' => e = .returned (.int .i64 0) ∧ Below w.heap.size w w' := by
 have h := bitsOf_any (some ⟨B0, 0, none⟩) 3 tgN (by decide) tg_wok 2 w hT.n
 rw [tg_in] at h
 exact h
theorem bitsT3_any (B0 B1 B2 B3 : Nat) (w : World) (hT : TgAt w B0 B1 B2 B3) :
   Calls Tryz.prog 34 #[.slice (some ⟨B0, 0, none⟩) 3 3, .int .i64 3] w fun e w' => e = .returned (.int .i64 1) ∧ Below w.heap.size w w' := by
 have h := bitsOf_any (some ⟨B0, 0, none⟩) 3 tgN (by decide) tg_wok 3 w hT.n
 rw [tg_st] at h
 exact h
end Go.Proofs.YtabnimgpednhjabGreat

namespace Go.Proofs.YtabnimgpednhjabGreat
open Go.RowKit Go.Maps
set_option maxRecDepth 100000
theorem checkT_any (B0 B1 B2 B3 : Nat) (w : World) (hT : TgAt w B0 B1 B2 B3) :
   Calls Tryz.prog 31 #[Mv.val (tgM B0 B1 B2 B3) 3] w fun e w' => e = .returned (.int .i64 0) ∧ Below w.heap.size w w' := by
 have h := check_any (some ⟨B0, 0, none⟩) (some ⟨B1, 0, none⟩) (some ⟨B2, 0, none⟩) (some ⟨B3, 0, none⟩) none 3 1 1 1 0 tgN [(1, 0)] [(1, 2)] [1] [] (by simp [maxLen, tgN]) (by decide) (by decide) (by simp [maxLen]) (by simp [maxLen]) w hT.n hT.i hT.x hT.b (fun h => by simp at h)
 rw [tg_chk] at h
 exact h
abbrev BoxS (h B0 B1 B2 B3 : Nat) (w' : World) : Prop :=
 w'.cell? ⟨h, 0, none⟩ = some (.slice (some ⟨B0, 0, none⟩) 3 3) ∧ w'.cell? ⟨h, 1, none⟩ = some (.slice (some ⟨B1, 0, none⟩) 1 1) ∧ w'.cell? ⟨h, 2, none⟩ = some (.slice (some ⟨B2, 0, none⟩) 1 1) ∧ w'.cell? ⟨h, 3, none⟩ = some (.slice (some ⟨B3, 0, none⟩) 1 1) ∧ w'.cell? ⟨h, 4, none⟩ = some (.slice none 0 0)
theorem BoxS.kept {h B0 B1 B2 B3 M : Nat} {w w1 : World} (H : BoxS h B0 B1 B2 B3 w) (hk : ∀ g, ¬ g = M → g < w.heap.size → w1.heap[g]? = w.heap[g]?) (hne : h ≠ M) : BoxS h B0 B1 B2 B3 w1 :=
 ⟨kept_cell H.1 hk hne, kept_cell H.2.1 hk hne, kept_cell H.2.2.1 hk hne, kept_cell H.2.2.2.1 hk hne, kept_cell H.2.2.2.2 hk hne⟩
theorem BoxS.set {h B0 B1 B2 B3 b : Nat} {w : World} (H : BoxS h B0 B1 B2 B3 w) (hne : h ≠ b) (j : Nat) (v : Value) : BoxS h B0 B1 B2 B3 (w.setCell ⟨b, j, none⟩ v) :=
 H.kept (M := b) (fun g hg _ => Below.heap_setCell w _ _ g (by simpa using hg)) hne
structure ResS (h : Nat) (w' : World) : Prop where
 z0 : w'.cell? ⟨h, 0, none⟩ = some (.int .i64 0)
 z1 : w'.cell? ⟨h, 1, none⟩ = some (.slice none 0 0)
 z2 : w'.cell? ⟨h, 2, none⟩ = some (.int .i64 0)
 z3 : w'.cell? ⟨h, 3, none⟩ = some (.int .i64 0)
 z4 : w'.cell? ⟨h, 4, none⟩ = some (.slice none 0 0)
 z5 : w'.cell? ⟨h, 5, none⟩ = some (.slice none 0 0)
 z6 : w'.cell? ⟨h, 6, none⟩ = some (.slice none 0 0)
 z7 : w'.cell? ⟨h, 7, none⟩ = some (.slice none 0 0)
 zf : ∀ i, w'.frozen? ⟨h, i, none⟩ = false
theorem ResS.kept {h M : Nat} {w w1 : World} (H : ResS h w) (hk : ∀ g, ¬ g = M → g < w.heap.size → w1.heap[g]? = w.heap[g]?) (hne : h ≠ M) : ResS h w1 :=
 ⟨kept_cell H.z0 hk hne, kept_cell H.z1 hk hne, kept_cell H.z2 hk hne, kept_cell H.z3 hk hne, kept_cell H.z4 hk hne, kept_cell H.z5 hk hne, kept_cell H.z6 hk hne, kept_cell H.z7 hk hne, fun i => by rw [World.frozen?_of_block (w := w) (a := ⟨h, i, none⟩) (hk h hne (World.block_lt_of_cell? _ _ H.z0))]; exact H.zf i⟩
theorem ResS.later {h : Nat} {w w1 : World} (H : ResS h w) (hb : Below w.heap.size w w1) : ResS h w1 := H.kept (M := w.heap.size) (fun g _ hg => hb.block g hg) (by have := World.block_lt_of_cell? _ _ H.z0; simp at this; omega)
abbrev newC : Obj := .cells #[.int .i64 0, .slice none 0 0, .int .i64 0, .int .i64 0, .slice none 0 0, .slice none 0 0, .slice none 0 0, .slice none 0 0] 27
theorem res_new (w : World) : ResS w.heap.size (w.alloc newC) := ⟨by simp [go_sem], by simp [go_sem], by simp [go_sem], by simp [go_sem], by simp [go_sem], by simp [go_sem], by simp [go_sem], by simp [go_sem], fun i => by simp [go_sem]⟩
def Off (p : Option Addr) (h : Nat) : Prop := ∀ b off, p = some ⟨b, off, none⟩ → ∀ j, j ≤ 7 → ¬ (b = h ∧ off = j)
theorem off_ne {p : Option Addr} {h : Nat} (H : ∀ b off, p = some ⟨b, off, none⟩ → b ≠ h) : Off p h := fun b off e _ _ h2 => H b off e h2.1
theorem ints_off {w : World} {p : Option Addr} {x : Int} {h j : Nat} (H : IntsAt w p [x]) (ho : Off p h) (hj : j ≤ 7) (v : Value) : IntsAt (w.setCell ⟨h, j, none⟩ v) p [x] := fun h0 => by
 obtain ⟨b, off, rfl, hc⟩ := H h0
 refine ⟨b, off, rfl, fun i hi => ?_⟩
 have hi0 : i = 0 := by simpa using hi
 subst hi0
 rw [World.cell?_setCell_other w _ _ _ (by have := ho b off rfl j hj; simp; omega)]
 exact hc 0 hi
theorem off_of {w : World} {p : Option Addr} {x : Int} {h : Nat} (R : ResS h w) (H : IntsAt w p [x]) (hx : x ≠ 0) : Off p h := fun b off e j hj h2 => by
 obtain ⟨b', off', e', hc⟩ := H (by simp)
 rw [e] at e'
 cases e'
 obtain ⟨rfl, rfl⟩ := h2
 have h1 : w.cell? ⟨b, off, none⟩ = some (.int .i64 x) := by simpa using hc 0 (by simp)
 have : off = 0 ∨ off = 1 ∨ off = 2 ∨ off = 3 ∨ off = 4 ∨ off = 5 ∨ off = 6 ∨ off = 7 := by omega
 rcases this with rfl | rfl | rfl | rfl | rfl | rfl | rfl | rfl
 · rw [R.z0] at h1; cases h1; exact hx rfl
 · rw [R.z1] at h1; cases h1
 · rw [R.z2] at h1; cases h1; exact hx rfl
 · rw [R.z3] at h1; cases h1; exact hx rfl
 · rw [R.z4] at h1; cases h1
 · rw [R.z5] at h1; cases h1
 · rw [R.z6] at h1; cases h1
 · rw [R.z7] at h1; cases h1
theorem ints_lt {w : World} {p : Option Addr} {x : Int} (H : IntsAt w p [x]) : ∀ b off, p = some ⟨b, off, none⟩ → b < w.heap.size := fun b off e => by
 obtain ⟨b', off', e', hc⟩ := H (by simp)
 rw [e] at e'
 cases e'
 exact World.block_lt_of_cell? _ _ (hc 0 (by simp))
structure Ez (w wr : World) (n P M B0 B1 B2 B3 : Nat) (pi : Option Addr) : Prop where
 x : BoxS w.heap.size B0 B1 B2 B3 wr
 g : ∃ X pv cv, wr.cell? ⟨P, 0, none⟩ = some (.pointer (some ⟨X, 0, none⟩)) ∧ wr.cell? ⟨X, 0, none⟩ = some (.int .i64 1) ∧ wr.cell? ⟨X, 1, none⟩ = some (.slice pv 0 cv) ∧ P ≠ M ∧ X ≠ M ∧ P < n ∧ X < n
 r : ResS (w.heap.size + 1) wr
 i : IntsAt wr pi [0]
 li : ∀ b off, pi = some ⟨b, off, none⟩ → w.heap.size + 2 ≤ b ∧ b < n ∧ b ≠ M
 bel : Below w.heap.size w wr
 hn : w.heap.size + 2 ≤ n
 hs : n ≤ wr.heap.size
 hM : w.heap.size + 2 ≤ M
 hMn : M < n
theorem Ez.kept {w wr w1 : World} {n P M B0 B1 B2 B3 : Nat} {pi : Option Addr} (H : Ez w wr n P M B0 B1 B2 B3 pi) (hb : Below w.heap.size wr w1) (hk : ∀ g, ¬ g = M → g < wr.heap.size → w1.heap[g]? = wr.heap[g]?) : Ez w w1 n P M B0 B1 B2 B3 pi := by
 obtain ⟨X, pv, cv, h1, h2, h3, h4, h5, h6, h7⟩ := H.g
 have hM := H.hM
 refine ⟨H.x.kept hk (by omega), ⟨X, pv, cv, kept_cell h1 hk h4, kept_cell h2 hk h5, kept_cell h3 hk h5, h4, h5, h6, h7⟩, H.r.kept hk (by omega), ?_, H.li, H.bel.trans hb, H.hn, Nat.le_trans H.hs hb.size, H.hM, H.hMn⟩
 intro h0
 obtain ⟨b, off, e, hc⟩ := H.i h0
 exact ⟨b, off, e, fun i hi => kept_cell (hc i hi) hk (H.li b off e).2.2⟩
theorem Ez.later {w wr w1 : World} {n P M B0 B1 B2 B3 : Nat} {pi : Option Addr} (H : Ez w wr n P M B0 B1 B2 B3 pi) (hb : Below wr.heap.size wr w1) : Ez w w1 n P M B0 B1 B2 B3 pi := H.kept (hb.mono (by have := H.bel.size; omega)) (fun g _ hg => hb.block g hg)
theorem Ez.alloc {w wr : World} {n P M B0 B1 B2 B3 : Nat} {pi : Option Addr} (H : Ez w wr n P M B0 B1 B2 B3 pi) (o : Obj) : Ez w (wr.alloc o) n P M B0 B1 B2 B3 pi := H.later (bal (Below.refl _ _) o)
structure Fz (w wx : World) (n P M B0 B1 B2 B3 blk : Nat) (pi : Option Addr) (ci : Nat) (pn : Option Addr) (cn : Nat) (pb : Option Addr) (cb : Nat) : Prop where
 e : Ez w wx n P M B0 B1 B2 B3 pi
 a : IntsAt wx pn [3]
 b : IntsAt wx pb [2]
 c0 : wx.cell? ⟨blk, 0, none⟩ = some (.int .i64 0)
 c1 : wx.cell? ⟨blk, 1, none⟩ = some (.slice none 0 0)
 c2 : wx.cell? ⟨blk, 2, none⟩ = some (.int .i64 0)
 c3 : wx.cell? ⟨blk, 3, none⟩ = some (.int .i64 1)
 c4 : wx.cell? ⟨blk, 4, none⟩ = some (.slice pi 1 ci)
 c5 : wx.cell? ⟨blk, 5, none⟩ = some (.slice pn 1 cn)
 c6 : wx.cell? ⟨blk, 6, none⟩ = some (.slice pb 1 cb)
 c7 : wx.cell? ⟨blk, 7, none⟩ = some (.slice none 0 0)
 cf : ∀ i, wx.frozen? ⟨blk, i, none⟩ = false
 oa : Off pn blk
 ob : Off pb blk
 hb : n ≤ blk
theorem fz_alloc {w w8 : World} {n P M B0 B1 B2 B3 : Nat} {pi pn pb : Option Addr} {ci cn cb : Nat} (H : Ez w w8 n P M B0 B1 B2 B3 pi) (ha : IntsAt w8 pn [3]) (hb : IntsAt w8 pb [2]) :
   Fz w (w8.alloc (.cells #[.int .i64 0, .slice none 0 0, .int .i64 0, .int .i64 1, .slice pi 1 ci, .slice pn 1 cn, .slice pb 1 cb, .slice none 0 0] 27)) n P M B0 B1 B2 B3 w8.heap.size pi ci pn cn pb cb :=
 ⟨H.alloc _, ha.later (bal (Below.refl _ _) _), hb.later (bal (Below.refl _ _) _), by simp [go_sem], by simp [go_sem], by simp [go_sem], by simp [go_sem], by simp [go_sem], by simp [go_sem], by simp [go_sem], by simp [go_sem], fun i => by simp [go_sem], off_ne fun b off e => Nat.ne_of_lt (ints_lt ha b off e), off_ne fun b off e => Nat.ne_of_lt (ints_lt hb b off e), H.hs⟩
theorem Ez.set {w wr : World} {n P M B0 B1 B2 B3 blk : Nat} {pi : Option Addr} (H : Ez w wr n P M B0 B1 B2 B3 pi) (hb : n ≤ blk) (j : Nat) (v : Value) : Ez w (wr.setCell ⟨blk, j, none⟩ v) n P M B0 B1 B2 B3 pi := by
 obtain ⟨X, pv, cv, h1, h2, h3, h4, h5, h6, h7⟩ := H.g
 have hn := H.hn
 have hk : ∀ g, ¬ g = blk → g < wr.heap.size → (wr.setCell ⟨blk, j, none⟩ v).heap[g]? = wr.heap[g]? := fun g hg _ => Below.heap_setCell wr _ _ g (by simpa using hg)
 refine ⟨H.x.kept hk (by omega), ⟨X, pv, cv, kept_cell h1 hk (by simp; omega), kept_cell h2 hk (by simp; omega), kept_cell h3 hk (by simp; omega), h4, h5, h6, h7⟩, H.r.kept hk (by omega), ?_, H.li, H.bel.setCell (p := ⟨blk, j, none⟩) (by simp; omega) v, H.hn, by simpa using H.hs, H.hM, H.hMn⟩
 intro h0
 obtain ⟨b, off, e, hc⟩ := H.i h0
 exact ⟨b, off, e, fun i hi => kept_cell (hc i hi) hk (by have := (H.li b off e).2.1; simp; omega)⟩
abbrev set8 (w8 : World) (blk : Nat) (v0 v1 v2 v3 v4 v5 v6 v7 : Value) : World := ((((((((w8.setCell ⟨blk, 0, none⟩ v0).setCell ⟨blk, 1, none⟩ v1).setCell ⟨blk, 2, none⟩ v2).setCell ⟨blk, 3, none⟩ v3).setCell ⟨blk, 4, none⟩ v4).setCell ⟨blk, 5, none⟩ v5).setCell ⟨blk, 6, none⟩ v6).setCell ⟨blk, 7, none⟩ v7)
theorem ints_set8 {w : World} {p : Option Addr} {x : Int} {h : Nat} (H : IntsAt w p [x]) (ho : Off p h) (v0 v1 v2 v3 v4 v5 v6 v7 : Value) : IntsAt (set8 w h v0 v1 v2 v3 v4 v5 v6 v7) p [x] :=
 ints_off (ints_off (ints_off (ints_off (ints_off (ints_off (ints_off (ints_off H ho (by omega) _) ho (by omega) _) ho (by omega) _) ho (by omega) _) ho (by omega) _) ho (by omega) _) ho (by omega) _) ho (by omega) _
theorem set8_cells {w : World} {h : Nat} (R : ResS h w) (v0 v1 v2 v3 v4 v5 v6 v7 : Value) :
   (set8 w h v0 v1 v2 v3 v4 v5 v6 v7).cell? ⟨h, 0, none⟩ = some v0 ∧ (set8 w h v0 v1 v2 v3 v4 v5 v6 v7).cell? ⟨h, 1, none⟩ = some v1 ∧ (set8 w h v0 v1 v2 v3 v4 v5 v6 v7).cell? ⟨h, 2, none⟩ = some v2 ∧ (set8 w h v0 v1 v2 v3 v4 v5 v6 v7).cell? ⟨h, 3, none⟩ = some v3 ∧ (set8 w h v0 v1 v2 v3 v4 v5 v6 v7).cell? ⟨h, 4, none⟩ = some v4 ∧ (set8 w h v0 v1 v2 v3 v4 v5 v6 v7).cell? ⟨h, 5, none⟩ = some v5 ∧ (set8 w h v0 v1 v2 v3 v4 v5 v6 v7).cell? ⟨h, 6, none⟩ = some v6 ∧ (set8 w h v0 v1 v2 v3 v4 v5 v6 v7).cell? ⟨h, 7, none⟩ = some v7 := by
 obtain ⟨z0, z1, z2, z3, z4, z5, z6, z7, _⟩ := R
 refine ⟨?_, ?_, ?_, ?_, ?_, ?_, ?_, ?_⟩ <;> simp [set8, go_sem, *]
theorem fz_set {w w8 : World} {n P M B0 B1 B2 B3 blk : Nat} {pi pn pb : Option Addr} {ci cn cb : Nat} (H : Ez w w8 n P M B0 B1 B2 B3 pi) (ha : IntsAt w8 pn [3]) (hb : IntsAt w8 pb [2]) (R : ResS blk w8) (hn : n ≤ blk) :
   Fz w (set8 w8 blk (.int .i64 0) (.slice none 0 0) (.int .i64 0) (.int .i64 1) (.slice pi 1 ci) (.slice pn 1 cn) (.slice pb 1 cb) (.slice none 0 0)) n P M B0 B1 B2 B3 blk pi ci pn cn pb cb := by
 obtain ⟨c0, c1, c2, c3, c4, c5, c6, c7⟩ := set8_cells R (.int .i64 0) (.slice none 0 0) (.int .i64 0) (.int .i64 1) (.slice pi 1 ci) (.slice pn 1 cn) (.slice pb 1 cb) (.slice none 0 0)
 have oa := off_of R ha (by decide)
 have ob := off_of R hb (by decide)
 exact ⟨((((((((H.set hn 0 _).set hn 1 _).set hn 2 _).set hn 3 _).set hn 4 _).set hn 5 _).set hn 6 _).set hn 7 _), ints_set8 ha oa _ _ _ _ _ _ _ _, ints_set8 hb ob _ _ _ _ _ _ _ _, c0, c1, c2, c3, c4, c5, c6, c7, fun i => by simp only [set8, World.frozen?_setCell]; exact R.zf i, oa, ob, hn⟩
end Go.Proofs.YtabnimgpednhjabGreat

namespace Go.Proofs.YtabnimgpednhjabGreat
open Go.RowKit Go.Maps
set_option maxRecDepth 100000
set_option maxHeartbeats 4000000 in
theorem nextOnes2_any (a0 a1 a2 a3 a4 : Option Addr) (c0 c1 c2 c3 c4 l1 l3 l4 : Nat) (ns : List Nd) (xs : List (Int × Int)) (hl : ns.length ≤ 80) (hlx : xs.length ≤ 8796093022208) (hs : ∀ (i : Nat) (h : i < xs.length), 0 ≤ xs[i].1 ∧ xs[i].1 < 80 ∧ 0 ≤ xs[i].2 ∧ xs[i].2 < 80) (w : World) (hN : NodesAt w a0 ns) (hX : PairsAt w a2 xs) :
   Calls Tryz.prog 36 #[Mv.val ⟨a0, c0, a1, l1, c1, a2, xs.length, c2, a3, l3, c3, a4, l4, c4⟩ ns.length] w fun e w' => ∃ p cap, e = .returned (.slice p ((sel (isK ns 3) ns.length).map (lastV xs)).length cap) ∧ IntsAt w' p ((sel (isK ns 3) ns.length).map (lastV xs)) ∧ Below w.heap.size w w' ∧ ∀ b off, p = some ⟨b, off, none⟩ → w.heap.size ≤ b := by
 have hB0 : Below w.heap.size w (w.alloc (.cells (Mv.cells ⟨a0, c0, a1, l1, c1, a2, xs.length, c2, a3, l3, c3, a4, l4, c4⟩ ns.length) 35)) := bal (Below.refl _ _) _
 have HP := hide (partners_any a2 c2 xs hlx hs _ (hX.later hB0))
 have HN := hide hN
 have HSL := hide (sel_len (isK ns 3) ns.length)
 have HBD := hide (fun k (h : k < (sel (isK ns 3) ns.length).length) => sel_in h)
 have HOK := hide (fun (w' : World) (hb : Below w.heap.size w w') => ofKind_any a0 c0 ns (by omega) 3 w' (hN.later hb))
 generalize sel (isK ns 3) ns.length = l at *
 have hll := HSL.out
 generalize hR : l.map (lastV xs) = R at *
 have HRQ := hide hR
 clear hN hX hs HSL hR
 go_enter Tryz.func36, Tryz.ntmps36
 go_wp2_with fail
 refine HP.out.mono ?_
 rintro e w1 ⟨M, D, rfl, _, hown, hD, hb1⟩
 have q0 := cell_later hb1 (a := ⟨w.heap.size, 0, none⟩) (v := .slice a0 ns.length c0) (by simp [go_sem])
 have HB1 := hide (bthen hB0 hb1)
 have HD := hide hD
 have HO := hide hown
 clear hb1 hB0 hown hD
 go_wp2_with fail
 refine (HOK.out _ HB1.out).mono ?_
 rintro e w2 ⟨p2, cap2, rfl, hI2, hb2⟩
 have HO2 := hide (Gg.map_below HO.out hb2)
 have HB2 := hide (bthen HB1.out hb2)
 have HI2 := hide hI2
 clear hb2 hI2 HO HB1 q0
 clear HP HN
 go_wp2
 go_loopw [4, 14] (fun v i wr => ∃ k : Nat, k ≤ l.length ∧ i = .int .i64 k ∧ wr.ownsRow w2.heap.size 3 1 v (nextsL xs l k).length ((nextsL xs l k).map (Value.int .i64)) ∧ Below w2.heap.size w2 wr) (fun _ i _ => l.length - (intOf i).toNat)
 case atStart => exact ⟨0, Nat.zero_le _, rfl, World.ownsRow_nil _ _ _ _, Below.refl _ _⟩
 case round =>
   obtain ⟨k, hk, rfl, hown, hbw⟩ := hrel
   have hszw := hbw.size
   by_cases hlt : k < l.length
   · obtain ⟨b, off, rfl, hc⟩ := (HI2.out.later hbw) (by omega)
     have hck := hc k hlt
     have hki : (k : Int) < (l.length : Int) := by omega
     have hbd := HBD.out k hlt
     have HS := hide (nextsL_succ xs l k hlt)
     have HLN := hide (nextsL_len xs l k hk)
     have HOM := hide (Gg.map_below HO2.out hbw)
     have HOW := hide hown
     have HBW := hide hbw
     clear hc hown hbw
     generalize l[k] = x at *
     have hkey : keyOf Tryz.prog 3 (.int .i64 x) = some (.int .i64 x) := keyOf_int_mk Tryz.underlying3 (WalkArith.wf_i64 (by omega))
     have HAT := hide (HD.out.at' x)
     generalize nextsL xs l k = us at *
     generalize lastV xs x = y at *
     go_wp2_with (first
       | (at_lookup; refine wpList_lookup_own_int _ rfl _ _ 92 rfl 3 3 .i64 law3 Tryz.underlying92 Tryz.underlying3 (zero3 _) M xs.length D rfl HOM.out _ _ rfl hkey ?_; intro c hat hwc; have hcy : c = y := lit_inj (hat.symm.trans HAT.out); subst hcy; clear hat hwc)
       | (at_builtin; refine Gg.wpList_append_ints rfl _ _ rfl w2.heap.size _ us [c] rfl (HOW.out.alloc _) _ _ rfl (Gg.ints_one c) (fun h => by cases h) (by simp; rw [HLN.out]; omega) (by simp; omega) ?_))
     intro v' w6 hown6 hg6
     have HB6 := hide ((bal HBW.out _).grown hg6 (by simp; omega) (fun j hj => (HOW.out.lt j hj).1))
     have hown7 : w6.ownsRow w2.heap.size 3 1 v' (nextsL xs l (k + 1)).length ((nextsL xs l (k + 1)).map (Value.int .i64)) := by rw [HS.out]; simpa using hown6
     clear hown6 hg6
     go_wp2
     go_roundw
     case rel => exact ⟨k + 1, by omega, by go_num, hown7, HB6.out⟩
     case measure => simp [intOf]; omega
   · obtain rfl : k = l.length := by omega
     have hki : ¬ (l.length : Int) < (l.length : Int) := by omega
     have hall : nextsL xs l l.length = R := by rw [← HRQ.out]; simp [nextsL]
     rw [hall] at hown
     obtain ⟨pv, cv, rfl, hiv, _⟩ := Gg.owns_ints hown
     have HIV := hide hiv
     have HBW := hide (bthen HB2.out hbw)
     have HLT : Hid (∀ b off, pv = some ⟨b, off, none⟩ → w.heap.size ≤ b) := fun b off e => by subst e; exact Nat.le_trans HB2.out.size (hown.lt b rfl).1
     clear hall hown hiv hbw
     go_wp2
     go_ret
     exact ⟨pv, ⟨cv, rfl⟩, HIV.out, HBW.out, HLT.out⟩
end Go.Proofs.YtabnimgpednhjabGreat
namespace Go.Proofs.YtabnimgpednhjabGreat.Gg
open Go.RowKit Go.Maps Go.WideMaps
set_option maxRecDepth 100000
abbrev Lst := Option Addr × List Int
def Kp (w : World) (M B : Nat) (v : Value) (Mb lo : Nat) (x : Lst) : Prop := IntsAt w x.1 x.2 ∧ ∀ b off, x.1 = some ⟨b, off, none⟩ → 0 < x.2.length → lo ≤ b ∧ Apart M B v b ∧ b ≠ Mb
theorem Kp.lt {w : World} {M B : Nat} {v : Value} {Mb lo : Nat} {x : Lst} (h : Kp w M B v Mb lo x) {b off : Nat} (e : x.1 = some ⟨b, off, none⟩) (h0 : 0 < x.2.length) : b < w.heap.size := by
 obtain ⟨b', o', e', hc⟩ := h.1 h0
 rw [e] at e'
 cases e'
 exact World.block_lt_of_cell? _ _ (hc 0 h0)
theorem Kp.gom {w w1 : World} {base M B : Nat} {v v1 : Value} {Mb lo : Nat} {x : Lst} (h : Kp w M B v Mb lo x) (hg : Gom base M B Mb w v w1 v1) : Kp w1 M B v1 Mb lo x := by
 refine ⟨fun h0 => ?_, fun b off e h0 => ?_⟩
 · obtain ⟨b, o, e, hc⟩ := h.1 h0
   obtain ⟨_, h2, h3⟩ := h.2 b o e h0
   exact ⟨b, o, e, fun i hi => hg.cell (hc i hi) h2 h3⟩
 · obtain ⟨h1, h2, h3⟩ := h.2 b off e h0
   exact ⟨h1, (hg.far b (h.lt e h0) h2 h3).2, h3⟩
theorem Kp.set {w : World} {M B : Nat} {v : Value} {Mb lo : Nat} {x : Lst} (h : Kp w M B v Mb lo x) {blk j : Nat} {u : Value} (hn : ∀ b off, x.1 = some ⟨b, off, none⟩ → 0 < x.2.length → b ≠ blk) : Kp (w.setCell ⟨blk, j, none⟩ u) M B v Mb lo x := by
 refine ⟨fun h0 => ?_, h.2⟩
 obtain ⟨b, o, e, hc⟩ := h.1 h0
 exact ⟨b, o, e, fun i hi => cell_set_far (hc i hi) (hn b o e h0)⟩
structure Ey (E : List Bool → List Int → Prop) (ns : List Nd) (m : Mv) (w wr : World) (base Pb M B Mb : Nat) (v : Value) (n : Nat) (ps : Gr) (D : DataW Unit) (ls : List Lst) : Prop where
 x : Box wr w.heap.size m ns.length
 r : ResS (w.heap.size + 1) wr
 k : Kz (fun g => g = Mb) E ns m.a0 m.c0 wr base Pb M B Mb v n ps D
 s : ps.length ≤ 1000 * kn D ns.length
 l : ∀ x ∈ ls, Kp wr M B v Mb (w.heap.size + 2) x
 bel : Below w.heap.size w wr
 hn : w.heap.size + 2 ≤ base
theorem Ey.gom {E : List Bool → List Int → Prop} {ns : List Nd} {m : Mv} {w wr w1 : World} {base Pb M B Mb : Nat} {v v1 : Value} {n : Nat} {ps qs : Gr} {D D1 : DataW Unit} {ls : List Lst} (h : Ey E ns m w wr base Pb M B Mb v n ps D ls) (hg : Gom base M B Mb wr v w1 v1) (hk : Kz (fun g => g = Mb) E ns m.a0 m.c0 w1 base Pb M B Mb v1 n qs D1) (hs : qs.length ≤ 1000 * kn D1 ns.length) : Ey E ns m w w1 base Pb M B Mb v1 n qs D1 ls := by
 have hn := h.hn
 have hx := h.x
 have e0 : w1.heap[w.heap.size]? = wr.heap[w.heap.size]? := hg.bel.block _ (by omega)
 refine ⟨⟨cell_block hx.1 e0, cell_block hx.2.1 e0, cell_block hx.2.2.1 e0, cell_block hx.2.2.2.1 e0, cell_block hx.2.2.2.2 e0⟩, ?_, hk, hs, fun x hx => (h.l x hx).gom hg, h.bel.trans (hg.bel.mono (by omega)), hn⟩
 have e1 : w1.heap[w.heap.size + 1]? = wr.heap[w.heap.size + 1]? := hg.bel.block _ (by omega)
 have R := h.r
 exact ⟨cell_block R.z0 e1, cell_block R.z1 e1, cell_block R.z2 e1, cell_block R.z3 e1, cell_block R.z4 e1, cell_block R.z5 e1, cell_block R.z6 e1, cell_block R.z7 e1, fun i => by rw [World.frozen?_of_block (w := wr) (a := ⟨w.heap.size + 1, i, none⟩) e1]; exact R.zf i⟩
theorem Ey.later {E : List Bool → List Int → Prop} {ns : List Nd} {m : Mv} {w wr w1 : World} {base Pb M B Mb : Nat} {v : Value} {n : Nat} {ps : Gr} {D : DataW Unit} {ls : List Lst} (h : Ey E ns m w wr base Pb M B Mb v n ps D ls) (he : EnvOk E ns n) (hb : Below wr.heap.size wr w1) : Ey E ns m w w1 base Pb M B Mb v n ps D ls :=
 h.gom (gon_quiet (hb.mono h.k.bs.hb) hb).gom (h.k.later he hb) h.s
theorem Ey.alloc {E : List Bool → List Int → Prop} {ns : List Nd} {m : Mv} {w wr : World} {base Pb M B Mb : Nat} {v : Value} {n : Nat} {ps : Gr} {D : DataW Unit} {ls : List Lst} (h : Ey E ns m w wr base Pb M B Mb v n ps D ls) (he : EnvOk E ns n) (o : Obj) : Ey E ns m w (wr.alloc o) base Pb M B Mb v n ps D ls := h.later he (bal (Below.refl _ _) o)
theorem Ey.cons {E : List Bool → List Int → Prop} {ns : List Nd} {m : Mv} {w wr : World} {base Pb M B Mb : Nat} {v : Value} {n : Nat} {ps : Gr} {D : DataW Unit} {ls : List Lst} (h : Ey E ns m w wr base Pb M B Mb v n ps D ls) {x : Lst} (hx : Kp wr M B v Mb (w.heap.size + 2) x) : Ey E ns m w wr base Pb M B Mb v n ps D (x :: ls) :=
 ⟨h.x, h.r, h.k, h.s, fun y hy => by rcases List.mem_cons.1 hy with rfl | hy; exact hx; exact h.l y hy, h.bel, h.hn⟩
structure Rb (w : World) (base M B Mb : Nat) (v : Value) (Pb blk : Nat) (ls : List Lst) : Prop where
 r : ResS blk w
 a : Apart M B v blk
 nm : blk ≠ Mb
 np : blk ≠ Pb
 hb : base ≤ blk
 lt : blk < w.heap.size
 nl : ∀ x ∈ ls, ∀ b off, x.1 = some ⟨b, off, none⟩ → 0 < x.2.length → b ≠ blk
theorem Ey.rb {E : List Bool → List Int → Prop} {ns : List Nd} {m : Mv} {w wr : World} {base Pb M B Mb : Nat} {v : Value} {n : Nat} {ps : Gr} {D : DataW Unit} {ls : List Lst} (h : Ey E ns m w wr base Pb M B Mb v n ps D ls) : Rb (wr.alloc newC) base M B Mb v Pb wr.heap.size ls :=
 ⟨res_new wr, h.k.bs.bm.new (Nat.le_refl _), by have := h.k.own.lt; omega, by have := World.block_lt_of_cell? _ _ h.k.c1; simp only at this; omega, h.k.bs.hb, by simp, fun x hx b off e h0 => by have := (h.l x hx).lt e h0; omega⟩
theorem Rb.gom {w w1 : World} {base M B Mb : Nat} {v v1 : Value} {Pb blk : Nat} {ls : List Lst} (h : Rb w base M B Mb v Pb blk ls) (hg : Gom base M B Mb w v w1 v1) : Rb w1 base M B Mb v1 Pb blk ls := by
 obtain ⟨e1, a1⟩ := hg.far blk h.lt h.a h.nm
 have R := h.r
 exact ⟨⟨cell_block R.z0 e1, cell_block R.z1 e1, cell_block R.z2 e1, cell_block R.z3 e1, cell_block R.z4 e1, cell_block R.z5 e1, cell_block R.z6 e1, cell_block R.z7 e1, fun i => by rw [World.frozen?_of_block (w := w) (a := ⟨blk, i, none⟩) e1]; exact R.zf i⟩, a1, h.nm, h.np, h.hb, Nat.lt_of_lt_of_le h.lt hg.bel.size, h.nl⟩
theorem Rb.later {w w1 : World} {base M B Mb : Nat} {v : Value} {Pb blk : Nat} {ls : List Lst} (h : Rb w base M B Mb v Pb blk ls) (hb : Below w.heap.size w w1) : Rb w1 base M B Mb v Pb blk ls :=
 h.gom (gon_quiet (hb.mono (by have := h.hb; have := h.lt; omega)) hb).gom
theorem Rb.cons {w : World} {base M B Mb : Nat} {v : Value} {Pb blk : Nat} {ls : List Lst} (h : Rb w base M B Mb v Pb blk ls) {x : Lst} (hx : ∀ b off, x.1 = some ⟨b, off, none⟩ → 0 < x.2.length → b ≠ blk) : Rb w base M B Mb v Pb blk (x :: ls) :=
 ⟨h.r, h.a, h.nm, h.np, h.hb, h.lt, fun y hy => by rcases List.mem_cons.1 hy with rfl | hy; exact hx; exact h.nl y hy⟩
end Go.Proofs.YtabnimgpednhjabGreat.Gg

namespace Go.Proofs.YtabnimgpednhjabGreat.Gg
open Go.RowKit Go.Maps Go.WideMaps
set_option maxRecDepth 100000
theorem ey_new {E : List Bool → List Int → Prop} {ns : List Nd} {m : Mv} {w u w1 : World} {base Pb M B Mb : Nat} {v : Value} {n : Nat} {ps : Gr} {D : DataW Unit} {ls : List Lst} (h : Ey E ns m w u base Pb M B Mb v n ps D ls) (he : EnvOk E ns n) (hb : Below u.heap.size u w1) {p : Option Addr} {L : List Int} (hI : IntsAt w1 p L) (hnew : ∀ b off, p = some ⟨b, off, none⟩ → u.heap.size ≤ b) : Ey E ns m w w1 base Pb M B Mb v n ps D ((p, L) :: ls) :=
 (h.later he hb).cons ⟨hI, fun b off e _ => ⟨by have := hnew b off e; have := h.bel.size; have := h.k.bs.hb; have := h.hn; omega, h.k.bs.bm.new (hnew b off e), by have := hnew b off e; have := h.k.own.lt; omega⟩⟩
theorem rb_new {u w1 : World} {base M B Mb : Nat} {v : Value} {Pb blk : Nat} {ls : List Lst} (h : Rb u base M B Mb v Pb blk ls) (hb : Below u.heap.size u w1) {p : Option Addr} {L : List Int} (hnew : ∀ b off, p = some ⟨b, off, none⟩ → u.heap.size ≤ b) : Rb w1 base M B Mb v Pb blk ((p, L) :: ls) :=
 (h.later hb).cons fun b off e _ => by have := hnew b off e; have := h.lt; omega
theorem ey_all {E : List Bool → List Int → Prop} {ns : List Nd} {m : Mv} {w u w1 : World} {base Pb M B Mb : Nat} {v v1 : Value} {n : Nat} {ps qs : Gr} {D D1 : DataW Unit} {ls : List Lst} (h : Ey E ns m w u base Pb M B Mb v n ps D ls) {p : Option Addr} {L : List Int} (hk : Kz (fun g => g = Mb) E ns m.a0 m.c0 w1 base Pb M B Mb v1 n qs D1) (hs : qs.length ≤ 1000 * kn D1 ns.length) (hl : LA w1 M B v1 p L ∧ Off p Mb ∧ ∀ g off, p = some ⟨g, off, none⟩ → u.heap.size ≤ g) (hg : Gom base M B Mb u v w1 v1) : Ey E ns m w w1 base Pb M B Mb v1 n qs D1 ((p, L) :: ls) :=
 (h.gom hg hk hs).cons ⟨hl.1.1, fun b off e h0 => ⟨by have := hl.2.2 b off e; have := h.k.bs.hb; have := h.hn; omega, hl.1.2 b off e h0, hl.2.1 b off e⟩⟩
theorem rb_all {u w1 : World} {base M B Mb : Nat} {v v1 : Value} {Pb blk : Nat} {ls : List Lst} (h : Rb u base M B Mb v Pb blk ls) (hg : Gom base M B Mb u v w1 v1) {p : Option Addr} {L : List Int} (hnew : ∀ b off, p = some ⟨b, off, none⟩ → u.heap.size ≤ b) : Rb w1 base M B Mb v1 Pb blk ((p, L) :: ls) :=
 (h.gom hg).cons fun b off e _ => by have := hnew b off e; have := h.lt; omega
def TL (E : List Bool → List Int → Prop) (ns : List Nd) (n : Nat) (qs : Gr) (nums : List Int) (LS : List (List Int)) : Prop := LS.length = nums.length ∧ ∀ i (h : i < LS.length), Vals n qs LS[i] ∧ Tells E ns qs (nums.getD i 0).toNat LS[i]
theorem TL.ext {E : List Bool → List Int → Prop} {ns : List Nd} {n j : Nat} {qs rs : Gr} {nums : List Int} {LS : List (List Int)} (h : TL E ns n qs nums LS) (he : EnvOk E ns n) (hx : Ext n j qs rs) : TL E ns n rs nums LS :=
 ⟨h.1, fun i hi => ⟨hx.vals (h.2 i hi).1, (h.2 i hi).2.ext he hx (h.2 i hi).1⟩⟩
theorem la_arg {w wr : World} {base M B Mb : Nat} {v : Value} {p : Option Addr} {L : List Int} (hI : IntsAt w p L) (hb : Below w.heap.size w wr) (hbase : w.heap.size ≤ base) {ps : Gr} {n : Int} (hm : Mk wr base M B v n ps) (hMb : base ≤ Mb) : LA wr M B v p L ∧ (0 < L.length → Off p Mb) := by
 have key : ∀ b off, p = some ⟨b, off, none⟩ → 0 < L.length → b < w.heap.size := fun b off e h0 => by
   obtain ⟨b', o', e', hc⟩ := hI h0
   rw [e] at e'
   cases e'
   exact World.block_lt_of_cell? _ _ (hc 0 h0)
 refine ⟨⟨hI.later hb, fun b off e h0 => ?_⟩, fun h0 b off e => ?_⟩
 · have := key b off e h0
   have := hm.hM
   have := hm.hB
   exact ⟨by omega, by omega, fun e => by have := (hm.row.lt b e).1; omega⟩
 · have := key b off e h0
   omega
theorem Kp.la {w : World} {M B : Nat} {v : Value} {Mb lo : Nat} {x : Lst} (h : Kp w M B v Mb lo x) : LA w M B v x.1 x.2 ∧ (0 < x.2.length → Off x.1 Mb) :=
 ⟨⟨h.1, fun g off e h0 => (h.2 g off e h0).2.1⟩, fun h0 b off e => (h.2 b off e h0).2.2⟩
structure Fy (w wx : World) (base Pb M B Mb : Nat) (v : Value) (n : Nat) (qs : Gr) (blk : Nat) (ls : List Lst) (a s : Int) (vi vn vb vh : Value) : Prop where
 r : ResS (w.heap.size + 1) wx
 p0 : wx.cell? ⟨Pb, 0, none⟩ = some (.pointer (some ⟨M, 0, none⟩))
 m0 : wx.cell? ⟨M, 0, none⟩ = some (.int .i64 (n : Nat))
 m1 : wx.cell? ⟨M, 1, none⟩ = some v
 row : wx.ownsRow base 81 2 v qs.length (flat qs)
 l : ∀ x ∈ ls, Kp wx M B v Mb (w.heap.size + 2) x
 bel : Below w.heap.size w wx
 c0 : wx.cell? ⟨blk, 0, none⟩ = some (.int .i64 0)
 c1 : wx.cell? ⟨blk, 1, none⟩ = some (.slice none 0 0)
 c2 : wx.cell? ⟨blk, 2, none⟩ = some (.int .i64 a)
 c3 : wx.cell? ⟨blk, 3, none⟩ = some (.int .i64 s)
 c4 : wx.cell? ⟨blk, 4, none⟩ = some vi
 c5 : wx.cell? ⟨blk, 5, none⟩ = some vn
 c6 : wx.cell? ⟨blk, 6, none⟩ = some vb
 c7 : wx.cell? ⟨blk, 7, none⟩ = some vh
 cf : ∀ i, wx.frozen? ⟨blk, i, none⟩ = false
 nl : ∀ x ∈ ls, ∀ b off, x.1 = some ⟨b, off, none⟩ → 0 < x.2.length → b ≠ blk
 hb : base ≤ blk
 nb : blk ≠ M ∧ blk ≠ Pb ∧ v.ownBlock ≠ some blk
 hn : w.heap.size + 2 ≤ base
 hP : base ≤ Pb
 hM : base ≤ M
theorem fy_alloc {E : List Bool → List Int → Prop} {ns : List Nd} {m : Mv} {w u : World} {base Pb M B Mb : Nat} {v : Value} {n : Nat} {ps : Gr} {D : DataW Unit} {ls : List Lst} (h : Ey E ns m w u base Pb M B Mb v n ps D ls) (he : EnvOk E ns n) (hP : base ≤ Pb) (a s : Int) (vi vn vb vh : Value) :
   Fy w (u.alloc (.cells #[.int .i64 0, .slice none 0 0, .int .i64 a, .int .i64 s, vi, vn, vb, vh] 27)) base Pb M B Mb v n ps u.heap.size ls a s vi vn vb vh := by
 have h1 := h.alloc he (.cells #[.int .i64 0, .slice none 0 0, .int .i64 a, .int .i64 s, vi, vn, vb, vh] 27)
 have hM := h1.k.bs.bm.mem
 have hap := h.k.bs.bm.new (g := u.heap.size) (Nat.le_refl _)
 have hp := World.block_lt_of_cell? _ _ h.k.c1
 simp only at hp
 exact ⟨h1.r, h1.k.bs.p0, hM.c0, hM.c1, hM.row, h1.l, h1.bel, by simp [go_sem], by simp [go_sem], by simp [go_sem], by simp [go_sem], by simp [go_sem], by simp [go_sem], by simp [go_sem], by simp [go_sem], fun i => by simp [go_sem],
   fun x hx b off e h0 => by have := (h.l x hx).lt e h0; omega, h.k.bs.hb, ⟨hap.1, by omega, hap.2.2⟩, h.hn, hP, hM.hM⟩
theorem fy_set {E : List Bool → List Int → Prop} {ns : List Nd} {m : Mv} {w u : World} {base Pb M B Mb : Nat} {v : Value} {n : Nat} {ps : Gr} {D : DataW Unit} {ls : List Lst} {blk : Nat} (h : Ey E ns m w u base Pb M B Mb v n ps D ls) (R : Rb u base M B Mb v Pb blk ls) (hP : base ≤ Pb) (a s : Int) (vi vn vb vh : Value) :
   Fy w (set8 u blk (.int .i64 0) (.slice none 0 0) (.int .i64 a) (.int .i64 s) vi vn vb vh) base Pb M B Mb v n ps blk ls a s vi vn vb vh := by
 obtain ⟨c0, c1, c2, c3, c4, c5, c6, c7⟩ := set8_cells R.r (.int .i64 0) (.slice none 0 0) (.int .i64 a) (.int .i64 s) vi vn vb vh
 have hM := h.k.bs.bm.mem
 have hb := R.hb
 have hn := h.hn
 have far : ∀ {q : Addr} {y : Value}, u.cell? q = some y → q.block ≠ blk → (set8 u blk (.int .i64 0) (.slice none 0 0) (.int .i64 a) (.int .i64 s) vi vn vb vh).cell? q = some y := fun {q y} h1 h2 =>
   cell_set_far (cell_set_far (cell_set_far (cell_set_far (cell_set_far (cell_set_far (cell_set_far (cell_set_far h1 h2) h2) h2) h2) h2) h2) h2) h2
 have hh : w.heap.size ≤ blk := by omega
 have rr := h.r
 refine ⟨⟨far rr.z0 (by simp only [ne_eq]; omega), far rr.z1 (by simp only [ne_eq]; omega), far rr.z2 (by simp only [ne_eq]; omega), far rr.z3 (by simp only [ne_eq]; omega), far rr.z4 (by simp only [ne_eq]; omega), far rr.z5 (by simp only [ne_eq]; omega), far rr.z6 (by simp only [ne_eq]; omega), far rr.z7 (by simp only [ne_eq]; omega), fun i => by simp only [set8, World.frozen?_setCell]; exact rr.zf i⟩,
   far h.k.bs.p0 (fun e => R.np e.symm), far hM.c0 (fun e => R.a.1 e.symm), far hM.c1 (fun e => R.a.1 e.symm), owns_set (owns_set (owns_set (owns_set (owns_set (owns_set (owns_set (owns_set hM.row R.a.2.2) R.a.2.2) R.a.2.2) R.a.2.2) R.a.2.2) R.a.2.2) R.a.2.2) R.a.2.2,
   fun x hx => (((((((((h.l x hx).set (R.nl x hx)).set (R.nl x hx)).set (R.nl x hx)).set (R.nl x hx)).set (R.nl x hx)).set (R.nl x hx)).set (R.nl x hx)).set (R.nl x hx)),
   ((((((((h.bel.setCell (p := ⟨blk, 0, none⟩) hh _).setCell (p := ⟨blk, 1, none⟩) hh _).setCell (p := ⟨blk, 2, none⟩) hh _).setCell (p := ⟨blk, 3, none⟩) hh _).setCell (p := ⟨blk, 4, none⟩) hh _).setCell (p := ⟨blk, 5, none⟩) hh _).setCell (p := ⟨blk, 6, none⟩) hh _).setCell (p := ⟨blk, 7, none⟩) hh _),
   c0, c1, c2, c3, c4, c5, c6, c7, fun i => by simp only [set8, World.frozen?_setCell]; exact R.r.zf i, R.nl, hb, ⟨R.a.1, R.np, R.a.2.2⟩, hn, hP, hM.hM⟩
end Go.Proofs.YtabnimgpednhjabGreat.Gg

namespace Go.Proofs.YtabnimgpednhjabGreat.Gg
open Go.RowKit Go.Maps Go.WideMaps
set_option maxRecDepth 100000
def TF (E : List Bool → List Int → Prop) (ns : List Nd) (n : Nat) (qs : Gr) (nums F : List Int) : Prop := ∃ LS : List (List Int), F = LS.flatten ∧ TL E ns n qs nums LS
theorem TF.ext {E : List Bool → List Int → Prop} {ns : List Nd} {n j : Nat} {qs rs : Gr} {nums F : List Int} (h : TF E ns n qs nums F) (he : EnvOk E ns n) (hx : Ext n j qs rs) : TF E ns n rs nums F := by
 obtain ⟨LS, e, hl⟩ := h
 exact ⟨LS, e, hl.ext he hx⟩
theorem all_ey {E : List Bool → List Int → Prop} {ns : List Nd} {m : Mv} {w u : World} {base Pb M B Mb : Nat} {v : Value} {n : Nat} {ps : Gr} {D : DataW Unit} {ls : List Lst} (he : EnvOk E ns n) (hl80 : ns.length ≤ 80) (hn : firstN (nodeAtE ns) ns.length = 0) (h : Ey E ns m w u base Pb M B Mb v n ps D ls)
   {nums : List Int} {pn : Option Addr} {cn : Nat} (hl : nums.length ≤ 1000) (hin : ∀ x ∈ nums, 0 ≤ x ∧ x < ns.length) (hla : LA u M B v pn nums ∧ (0 < nums.length → Off pn Mb)) :
   Calls Tryz.prog 35 #[.pointer (some ⟨Pb, 0, none⟩), .slice pn nums.length cn] u fun e w' => ∃ (v' : Value) (qs : Gr) (D' : DataW Unit) (p : Option Addr) (cap : Nat) (F : List Int), e = .returned (.slice p F.length cap) ∧ Ey E ns m w w' base Pb M B Mb v' n qs D' ((p, F) :: ls) ∧ TF E ns n qs nums F ∧ (∃ j, Ext n j ps qs) ∧ Gom base M B Mb u v w' v' ∧ ∀ b off, p = some ⟨b, off, none⟩ → u.heap.size ≤ b := by
 refine (all_any he hl80 hn h.k h.s hl hin hla.1 hla.2).mono ?_
 rintro e w' ⟨v', qs, D', p, cap, LS, rfl, hk, hs, hl, hl2, ht, hx, hg⟩
 exact ⟨v', qs, D', p, cap, LS.flatten, rfl, ey_all h hk hs hl hg, ⟨LS, rfl, hl2, ht⟩, hx, hg, hl.2.2⟩
theorem all_new {E : List Bool → List Int → Prop} {ns : List Nd} {m : Mv} {w u : World} {base Pb M B Mb : Nat} {v : Value} {n : Nat} {ps : Gr} {D : DataW Unit} {ls : List Lst} (he : EnvOk E ns n) (hl80 : ns.length ≤ 80) (hn : firstN (nodeAtE ns) ns.length = 0)
   {nums : List Int} {pn : Option Addr} (cn : Nat) (h : Ey E ns m w u base Pb M B Mb v n ps D ((pn, nums) :: ls)) (hl : nums.length ≤ 1000) (hin : ∀ x ∈ nums, 0 ≤ x ∧ x < ns.length) :
   Calls Tryz.prog 35 #[.pointer (some ⟨Pb, 0, none⟩), .slice pn nums.length cn] u fun e w' => ∃ (v' : Value) (qs : Gr) (D' : DataW Unit) (p : Option Addr) (cap : Nat) (F : List Int), e = .returned (.slice p F.length cap) ∧ Ey E ns m w w' base Pb M B Mb v' n qs D' ((p, F) :: (pn, nums) :: ls) ∧ TF E ns n qs nums F ∧ (∃ j, Ext n j ps qs) ∧ Gom base M B Mb u v w' v' ∧ ∀ b off, p = some ⟨b, off, none⟩ → u.heap.size ≤ b :=
 all_ey he hl80 hn h hl hin (h.l (pn, nums) (List.mem_cons_self ..)).la
theorem all_arg {E : List Bool → List Int → Prop} {ns : List Nd} {m : Mv} {w u : World} {base Pb M B Mb : Nat} {v : Value} {n : Nat} {ps : Gr} {D : DataW Unit} {ls : List Lst} (he : EnvOk E ns n) (hl80 : ns.length ≤ 80) (hn : firstN (nodeAtE ns) ns.length = 0)
   {nums : List Int} {pn : Option Addr} (cn : Nat) (hI : IntsAt w pn nums) (h : Ey E ns m w u base Pb M B Mb v n ps D ls) (hl : nums.length ≤ 1000) (hin : ∀ x ∈ nums, 0 ≤ x ∧ x < ns.length) :
   Calls Tryz.prog 35 #[.pointer (some ⟨Pb, 0, none⟩), .slice pn nums.length cn] u fun e w' => ∃ (v' : Value) (qs : Gr) (D' : DataW Unit) (p : Option Addr) (cap : Nat) (F : List Int), e = .returned (.slice p F.length cap) ∧ Ey E ns m w w' base Pb M B Mb v' n qs D' ((p, F) :: ls) ∧ TF E ns n qs nums F ∧ (∃ j, Ext n j ps qs) ∧ Gom base M B Mb u v w' v' ∧ ∀ b off, p = some ⟨b, off, none⟩ → u.heap.size ≤ b :=
 all_ey he hl80 hn h hl hin (la_arg hI h.bel (by have := h.hn; omega) h.k.bs.bm.mem h.k.hM)
theorem Ey.xs {E : List Bool → List Int → Prop} {ns : List Nd} {m : Mv} {w u : World} {base Pb M B Mb : Nat} {v : Value} {n : Nat} {ps : Gr} {D : DataW Unit} {ls : List Lst} (h : Ey E ns m w u base Pb M B Mb v n ps D ls) :
   u.cell? ⟨w.heap.size, 0, none⟩ = some (.slice m.a0 ns.length m.c0) ∧ u.cell? ⟨w.heap.size, 1, none⟩ = some (.slice m.a1 m.l1 m.c1) ∧ u.cell? ⟨w.heap.size, 2, none⟩ = some (.slice m.a2 m.l2 m.c2) ∧ u.cell? ⟨w.heap.size, 3, none⟩ = some (.slice m.a3 m.l3 m.c3) ∧ u.cell? ⟨w.heap.size, 4, none⟩ = some (.slice m.a4 m.l4 m.c4) := h.x
theorem Ey.xset {E : List Bool → List Int → Prop} {ns : List Nd} {m : Mv} {w u : World} {base Pb M B Mb : Nat} {v : Value} {n : Nat} {ps : Gr} {D : DataW Unit} {ls : List Lst} (h : Ey E ns m w u base Pb M B Mb v n ps D ls) {blk : Nat} (hb : base ≤ blk) (v0 v1 v2 v3 v4 v5 v6 v7 : Value) :
   (set8 u blk v0 v1 v2 v3 v4 v5 v6 v7).cell? ⟨w.heap.size, 0, none⟩ = some (.slice m.a0 ns.length m.c0) ∧ (set8 u blk v0 v1 v2 v3 v4 v5 v6 v7).cell? ⟨w.heap.size, 1, none⟩ = some (.slice m.a1 m.l1 m.c1) ∧ (set8 u blk v0 v1 v2 v3 v4 v5 v6 v7).cell? ⟨w.heap.size, 2, none⟩ = some (.slice m.a2 m.l2 m.c2) ∧ (set8 u blk v0 v1 v2 v3 v4 v5 v6 v7).cell? ⟨w.heap.size, 3, none⟩ = some (.slice m.a3 m.l3 m.c3) ∧ (set8 u blk v0 v1 v2 v3 v4 v5 v6 v7).cell? ⟨w.heap.size, 4, none⟩ = some (.slice m.a4 m.l4 m.c4) := by
 have hn := h.hn
 have far : ∀ {q : Addr} {y : Value}, u.cell? q = some y → q.block ≠ blk → (set8 u blk v0 v1 v2 v3 v4 v5 v6 v7).cell? q = some y := fun {q y} h1 h2 =>
   cell_set_far (cell_set_far (cell_set_far (cell_set_far (cell_set_far (cell_set_far (cell_set_far (cell_set_far h1 h2) h2) h2) h2) h2) h2) h2) h2
 have ne : w.heap.size ≠ blk := by omega
 exact ⟨far h.xs.1 ne, far h.xs.2.1 ne, far h.xs.2.2.1 ne, far h.xs.2.2.2.1 ne, far h.xs.2.2.2.2 ne⟩
theorem fy_end {w wx : World} {base Pb M B Mb : Nat} {v : Value} {n : Nat} {qs : Gr} {blk : Nat} {ls : List Lst} {a s : Int} {vi vn vb vh : Value} (h : Fy w wx base Pb M B Mb v n qs blk ls a s vi vn vb vh) (x0 x1 y0 y1 y2 y3 y4 y5 y6 y7 : Value) {pv : Option Addr} {cv : Nat} (hv : v = .slice pv qs.length cv) :
   (∀ x ∈ ls, IntsAt (set8 ((wx.setCell ⟨blk, 0, none⟩ x0).setCell ⟨blk, 1, none⟩ x1) (w.heap.size + 1) y0 y1 y2 y3 y4 y5 y6 y7) x.1 x.2) ∧ PairsAt (set8 ((wx.setCell ⟨blk, 0, none⟩ x0).setCell ⟨blk, 1, none⟩ x1) (w.heap.size + 1) y0 y1 y2 y3 y4 y5 y6 y7) pv qs ∧ Below w.heap.size w (set8 ((wx.setCell ⟨blk, 0, none⟩ x0).setCell ⟨blk, 1, none⟩ x1) (w.heap.size + 1) y0 y1 y2 y3 y4 y5 y6 y7) := by
 have hn := h.hn
 have hb := h.hb
 have hs := h.bel.size
 have hh : w.heap.size ≤ w.heap.size + 1 := by omega
 have hb2 : w.heap.size ≤ blk := by omega
 refine ⟨fun x hx => ?_, ?_, ?_⟩
 · have hk := h.l x hx
   have h1 := h.nl x hx
   have h2 : ∀ b off, x.1 = some ⟨b, off, none⟩ → 0 < x.2.length → b ≠ w.heap.size + 1 := fun b off e h0 => by have := (hk.2 b off e h0).1; omega
   exact ((((((((((hk.set h1).set h1).set h2).set h2).set h2).set h2).set h2).set h2).set h2).set h2).1
 · have h1 : v.ownBlock ≠ some blk := h.nb.2.2
   have h2 : v.ownBlock ≠ some (w.heap.size + 1) := fun e => by have := (h.row.lt _ e).1; omega
   have hr : (set8 ((wx.setCell ⟨blk, 0, none⟩ x0).setCell ⟨blk, 1, none⟩ x1) (w.heap.size + 1) y0 y1 y2 y3 y4 y5 y6 y7).ownsRow base 81 2 v qs.length (flat qs) := owns_set (owns_set (owns_set (owns_set (owns_set (owns_set (owns_set (owns_set (owns_set (owns_set h.row h1) h1) h2) h2) h2) h2) h2) h2) h2) h2
   obtain ⟨p, c, e, hp⟩ := owns_pairs hr
   rw [hv] at e
   cases e
   exact hp
 · exact ((((((((((h.bel.setCell (p := ⟨blk, 0, none⟩) hb2 _).setCell (p := ⟨blk, 1, none⟩) hb2 _).setCell (p := ⟨w.heap.size + 1, 0, none⟩) hh _).setCell (p := ⟨w.heap.size + 1, 1, none⟩) hh _).setCell (p := ⟨w.heap.size + 1, 2, none⟩) hh _).setCell (p := ⟨w.heap.size + 1, 3, none⟩) hh _).setCell (p := ⟨w.heap.size + 1, 4, none⟩) hh _).setCell (p := ⟨w.heap.size + 1, 5, none⟩) hh _).setCell (p := ⟨w.heap.size + 1, 6, none⟩) hh _).setCell (p := ⟨w.heap.size + 1, 7, none⟩) hh _)
end Go.Proofs.YtabnimgpednhjabGreat.Gg
