/- The blaster of the toggle: start, the walk. -/
import Derived.Test.YtjhkecnnhddhbaaGreatDoorBkM
import Derived.Test.YtjhkecnnhddhbaaGreatDoorMhM
namespace Go.Proofs.YtjhkecnnhddhbaaGreatDoor.Ev
open Go.RowKit Go.Maps
set_option maxRecDepth 100000
theorem run_makeMap70 (w : World) : (Instr.makeMap 110 none).run Tryz.prog w = .ok (.map (some w.heap.size)) (w.alloc (.map #[] 0)) := by
 simp [Instr.makeMap]
theorem st_zero (w : World) (B0 B1 B2 B3 : Nat) : StA w ((((w.alloc (.cells (Mv.cells (tgM B0 B1 B2 B3) 3) 65)).alloc (.map #[] 0)).alloc (.cells #[.pointer none, .slice (some ⟨B0, 0, none⟩) 3 3, .map (some (w.heap.size + 1))] 112)).alloc (.cells #[.int .i64 0] 3)) B0 := by
 refine ⟨⟨by simp [go_sem], by simp [go_sem], by simp [go_sem], by simp [go_sem], by simp [go_sem], by simp [go_sem], bal (bal (bal (bal (Below.refl _ _) _) _) _) _, by simp⟩, ?_, by simp [go_sem]⟩
 have h := ((World.ownsMap_made (w.alloc (.cells (Mv.cells (tgM B0 B1 B2 B3) 3) 65)) Tryz.prog 3 slR).alloc (.cells #[.pointer none, .slice (some ⟨B0, 0, none⟩) 3 3, .map (some (w.heap.size + 1))] 112)).alloc (.cells #[.int .i64 0] 3)
 simpa using h
theorem index0 (w : World) : (Instr.index 75 (.agg #[.int .i64 2, .int .i64 3]) (.int .i64 0)).run Tryz.prog w = .ok (.int .i64 2) w := by kernel_rfl
theorem index1 (w : World) : (Instr.index 75 (.agg #[.int .i64 2, .int .i64 3]) (.int .i64 1)).run Tryz.prog w = .ok (.int .i64 3) w := by kernel_rfl
structure Bz (w : World) (P M B0 G n : Nat) (D : DataW Unit) : Prop where
 b1 : w.cell? ⟨P, 1, none⟩ = some (.slice (some ⟨B0, 0, none⟩) 3 3)
 b2 : w.cell? ⟨P, 2, none⟩ = some (.map (some M))
 own : w.ownsMap Tryz.prog 3 slR M n D
 has1 : Maps.has D (.int .i64 1) = true
 at1 : D.atKey (.int .i64 1) .nil = slD G 0 1 1
 row : Go.Proofs.YtjhkecnnhddhbaaGreatDoor.IRow w G [2]
 ltM : M < w.heap.size
 nePM : P ≠ M
 neGM : G ≠ M
structure Gz (w : World) (P M : Nat) : Prop where
 g : ∃ X pv cv, w.cell? ⟨P, 0, none⟩ = some (.pointer (some ⟨X, 0, none⟩)) ∧ w.cell? ⟨X, 0, none⟩ = some (.int .i64 1) ∧ w.cell? ⟨X, 1, none⟩ = some (.slice pv 0 cv) ∧ P ≠ M ∧ X ≠ M
theorem map_nil : IsMap (DataW.map [] : DataW Unit) := ⟨[], rfl⟩
theorem no_two (d : DataW Unit) : Maps.has ((DataW.map [] : DataW Unit).put (.int .i64 1) d) (.int .i64 2) = false := by
 rw [has_put_other (by simp)]; rfl
theorem nil_two (d : DataW Unit) : ((DataW.map [] : DataW Unit).put (.int .i64 1) d).atKey (.int .i64 2) .nil = .nil := by
 rw [atKey_put_other (by simp)]; rfl
theorem bz_first {w w4 : World} {B0 G X : Nat} (hs : StB w w4 B0 G) : Bz (w4.setCell ⟨w.heap.size + 2, 0, none⟩ (.pointer (some ⟨X, 0, none⟩))) (w.heap.size + 2) (w.heap.size + 1) B0 G 1 ((DataW.map []).put (.int .i64 1) (slD G 0 1 1)) := by
 have := hs.c.sz
 have := hs.g
 refine ⟨?_, ?_, map_block hs.own (Below.heap_setCell w4 _ _ _ (by simp)), ?_, ?_, hs.row.kept (Below.heap_setCell w4 _ _ _ (by simp; omega)), by simp; omega, by omega, by omega⟩
 · rw [World.cell?_setCell_other w4 _ _ _ (by simp)]; exact hs.c.b1
 · rw [World.cell?_setCell_other w4 _ _ _ (by simp)]; exact hs.c.b2
 · exact has_put_same map_nil (k := .int .i64 1) trivial _
 · exact atKey_put_same map_nil (k := .int .i64 1) trivial _ _
theorem StB.later {w wr w1 : World} {B0 G : Nat} (h : StB w wr B0 G) (hb : Below wr.heap.size wr w1) : StB w w1 B0 G := ⟨h.c.later hb, map_block h.own (hb.block _ (by have := h.c.sz; omega)), cell_later hb h.cnt, h.row.kept (hb.block _ (World.block_lt_of_cell? _ _ (h.row 0 (by simp)).1)), h.g⟩
def StK (w wr : World) (B0 k : Nat) : Prop := (k ≤ 1 ∧ StA w wr B0) ∨ (k = 2 ∧ ∃ G, StB w wr B0 G)
set_option maxHeartbeats 8000000 in
theorem startT_any (B0 B1 B2 B3 : Nat) (w : World) (hT : TgAt w B0 B1 B2 B3) :
   Calls Tryz.prog 75 #[Mv.val (tgM B0 B1 B2 B3) 3] w fun e w' => ∃ P M G D, e = .returned (.pointer (some ⟨P, 0, none⟩)) ∧ Bz w' P M B0 G 1 D ∧ Maps.has D (.int .i64 2) = false ∧ D.atKey (.int .i64 2) .nil = .nil ∧ Gz w' P M ∧ w.heap.size ≤ M ∧ Below w.heap.size w w' := by
 have HT := hide hT
 have hmm := run_makeMap70
 have HZ := hide (st_zero w B0 B1 B2 B3)
 have HOK2 := hide (fun (w' : World) (hb : Below w.heap.size w w') => ofKind_any (some ⟨B0, 0, none⟩) 3 tgN (by decide) 2 w' (hT.n.later hb))
 have HOK3 := hide (fun (w' : World) (hb : Below w.heap.size w w') => ofKind_any (some ⟨B0, 0, none⟩) 3 tgN (by decide) 3 w' (hT.n.later hb))
 rw [tg_sel2] at HOK2
 rw [tg_sel] at HOK3
 clear hT
 go_enter Tryz.func75, Tryz.ntmps75
 go_wp2
 go_loopw [17] (fun i wr => ∃ k : Nat, k ≤ 2 ∧ i = .int .i64 k ∧ Hid (StK w wr B0 k)) (fun i _ => 2 - (intOf i).toNat)
 case atStart => exact ⟨0, Nat.zero_le _, rfl, Or.inl ⟨Nat.zero_le _, HZ.out⟩⟩
 case round =>
   clear HZ
   obtain ⟨k, hk, rfl, HS⟩ := hrel
   rcases HS.out with ⟨hk1, hA⟩ | ⟨rfl, G, hBB⟩
   · have HA := hide hA
     have q0 := hA.c.q0
     have HB0 := hide hA.c.bel
     clear hA
     by_cases hk0 : k = 0
     · subst hk0
       have hix := index0
       go_wp2_with fail
       refine (HOK2.out _ HB0.out).mono ?_
       rintro e w1 ⟨p1, c1, rfl, _, hb1⟩
       have HA1 := hide (HA.out.later hb1)
       clear hb1 q0 HA
       go_wp2
       go_loopw [25] (fun i wr => i = .int .i64 0 ∧ wr = w1) (fun _ _ => 0)
       case atStart => exact ⟨rfl, rfl⟩
       case round =>
         obtain ⟨rfl, rfl⟩ := hrel
         go_wp2
         go_roundw
         case rel => exact ⟨1, by omega, by go_num, Or.inl ⟨Nat.le_refl _, HA1.out⟩⟩
         case measure => simp [intOf]
     · obtain rfl : k = 1 := by omega
       have hix := index1
       go_wp2_with fail
       refine (HOK3.out _ HB0.out).mono ?_
       rintro e w1 ⟨p1, c1, rfl, hI1, hb1⟩
       have HA1 := hide (HA.out.later hb1)
       have HI1 := hide hI1
       clear hb1 q0 HA hI1
       go_wp2
       go_loopw [25] (fun i wr => ∃ j : Nat, j ≤ 1 ∧ i = .int .i64 j ∧ ((j = 0 ∧ wr = w1) ∨ (j = 1 ∧ Hid (∃ G, StB w wr B0 G)))) (fun i _ => 1 - (intOf i).toNat)
       case atStart => exact ⟨0, by omega, rfl, Or.inl ⟨rfl, rfl⟩⟩
       case round =>
         obtain ⟨j, hj, rfl, ⟨rfl, hw1⟩ | ⟨rfl, HBB⟩⟩ := hrel
         · subst hw1
           obtain ⟨b, off, rfl, hc⟩ := HI1.out (by simp)
           have hc0 : wr.cell? ⟨b, off, none⟩ = some (.int .i64 1) := by simpa using hc 0 (by simp)
           obtain ⟨nb, no, hne, hnc⟩ := (HT.out.n.later HA1.out.c.bel) (by decide)
           cases hne
           have n1 := (hnc 1 (by decide)).2.1
           simp [tgN] at n1
           have j2 : wr.cell? ⟨w.heap.size + 1 + 1, 2, none⟩ = some (.map (some (w.heap.size + 1))) := HA1.out.c.b2
           have j0 := HA1.out.c.q0
           have hBne : B0 < w.heap.size := by
             obtain ⟨nb, no, hne, hnc⟩ := HT.out.n (by decide)
             cases hne
             exact World.block_lt_of_cell? _ _ (hnc 1 (by decide)).2.1
           have HNI := hide (nextIn_any (w.heap.size + 3) wr.drew w.heap.size (by omega) (by have := HA1.out.c.sz; simp; omega) HA1.out.cnt HA1.out.c.i)
           clear hc hnc
           go_wp2
           go_region_held3 (fun w' => w'.cell? ⟨w.heap.size + 1 + 1, 2, none⟩ = some (.map (some (w.heap.size + 1))) ∧ w'.cell? ⟨w.heap.size, 0, none⟩ = some (.slice (some ⟨B0, 0, none⟩) 3 3) ∧ w'.cell? ⟨B0, 7, none⟩ = some (.int .i64 1))
             (first
               | exact ⟨hg3.cell m2 (by simp), hg3.cell m0 (by simp), hg3.cell m7 (by simp; omega)⟩
               | exact ⟨m2, m0, m7⟩
               | go_keep)
             ((go_at_call 93; refine HNI.out.mono ?_; rintro e w2 ⟨G, rfl, hG, hr, hcn, hfn, hb2, hk2⟩
               have m2 : w2.cell? ⟨w.heap.size + 1 + 1, 2, none⟩ = some (.map (some (w.heap.size + 1))) := kept_cell j2 hk2 (by simp)
               have m0 : w2.cell? ⟨w.heap.size, 0, none⟩ = some (.slice (some ⟨B0, 0, none⟩) 3 3) := kept_cell j0 hk2 (by simp)
               have m7 : w2.cell? ⟨B0, 7, none⟩ = some (.int .i64 1) := kept_cell n1 hk2 (by simp; omega)
               obtain ⟨w3, hput, hown3, hg3⟩ := put70 (map_block HA1.out.own (hk2 (w.heap.size + 1) (by omega) (by have := HA1.out.c.sz; simp; omega))) (by omega) (x := 1) (by decide) (by decide) G 0 1 1))
           rename_i hHeld
           have HSB := hide (st_made HA1.out (Nat.le_trans (by simp) hb2.size) (by simpa using hG) hr hcn hfn ((Below.refl _ wr).drew.trans hb2) hk2 hown3 hg3)
           clear hHeld hr hcn hfn hb2 hk2 hown3 hg3 hput m2 m0 m7 HNI hG j2 j0 n1 hc0
           go_wp2
           go_roundw
           case rel => exact ⟨1, by omega, by go_num, Or.inr ⟨rfl, G, HSB.out⟩⟩
           case measure => simp [intOf]
         · go_wp2
           go_roundw
           case rel => exact ⟨2, by omega, by go_num, Or.inr ⟨rfl, HBB.out⟩⟩
           case measure => simp [intOf]
   · have x0 := hBB.cnt
     have HBB := hide hBB
     clear hBB
     have hcnt : wr.cell? ⟨w.heap.size + 1 + 1 + 1, 0, none⟩ = some (.int .i64 1) := x0
     have HF := hide (fun w1 => Go.Proofs.YtjhkecnnhddhbaaGreatDoor.from_any 1 none 0 [] (fun i h => by simp at h) (by simp) (by decide) (by decide) w1 (fun h => by simp at h))
     go_wp2_with fail
     refine (HF.out _).mono ?_
     rintro e w4 ⟨X, Bx, vx, Dx, rfl, hmk, _, _, hb4⟩
     have HS4 := hide (HBB.out.later hb4)
     have g0 : w4.cell? ⟨w.heap.size + 1 + 1, 0, none⟩ = some (.pointer none) := HS4.out.c.b0
     have g1 : w4.frozen? ⟨w.heap.size + 1 + 1, 0, none⟩ = false := HS4.out.c.bf
     have HMK := hide hmk
     have HB4 := hide hb4
     clear hb4 hmk x0 hcnt HF
     go_wp2
     go_ret
     obtain ⟨pv, cv, rfl, _⟩ := Go.Proofs.YtjhkecnnhddhbaaGreatDoor.owns_pairs HMK.out.row
     have hX := HMK.out.hM
     have hs := HBB.out.c.sz
     have hp := World.cell?_setCell_same w4 ⟨w.heap.size + 2, 0, none⟩ (.pointer (some ⟨X, 0, none⟩)) HS4.out.c.b0
     refine ⟨w.heap.size + 2, w.heap.size + 1, G, _, rfl, bz_first HS4.out, no_two _, nil_two _, ⟨X, pv, cv, hp, ?_, ?_, by omega, by omega⟩, by omega, (bthen HBB.out.c.bel HB4.out).setCell (p := ⟨w.heap.size + 2, 0, none⟩) (by simp) _⟩
     · rw [World.cell?_setCell_other w4 _ _ _ (by simp)]; exact HMK.out.c0
     · rw [World.cell?_setCell_other w4 _ _ _ (by simp)]; exact HMK.out.c1
end Go.Proofs.YtjhkecnnhddhbaaGreatDoor.Ev

namespace Go.Proofs.YtjhkecnnhddhbaaGreatDoor.Ev
open Go.RowKit Go.Maps
set_option maxRecDepth 100000
theorem Bz.later {w w1 : World} {P M B0 G n : Nat} {D : DataW Unit} (h : Bz w P M B0 G n D) (hb : Below w.heap.size w w1) : Bz w1 P M B0 G n D :=
 ⟨cell_later hb h.b1, cell_later hb h.b2, map_block h.own (hb.block _ h.ltM), h.has1, h.at1, h.row.kept (hb.block _ (World.block_lt_of_cell? _ _ (h.row 0 (by simp)).1)), Nat.lt_of_lt_of_le h.ltM hb.size, h.nePM, h.neGM⟩
theorem ops_not : opsL ⟨4, 1, 1, 0, 0, 0⟩ = [1] := by decide
theorem turn_two : [(2 : Int)].map Go.Proofs.YtjhkecnnhddhbaaGreatDoor.turn = [3] := by decide
theorem two_small : ∀ x ∈ [(2 : Int)], 0 ≤ x ∧ x ≤ 10000000 := by decide
theorem word1_any (P M B0 G n : Nat) (D : DataW Unit) (w : World) (h : Bz w P M B0 G n D) :
   Calls Tryz.prog 97 #[.pointer (some ⟨P, 0, none⟩), .int .i64 1] w fun e w' => e = .returned (.slice (some ⟨G, 0, none⟩) 1 1) ∧ w' = w := by
 have c2 := h.b2
 have hl := look70_yes h.own (x := 1) (by decide) (by decide) h.has1 h.at1
 clear h
 go_enter Tryz.func97, Tryz.ntmps97
 go_wp2
 go_ret
 exact ⟨rfl, rfl⟩
set_option maxHeartbeats 4000000 in
theorem word2_any (P M B0 G n : Nat) (D : DataW Unit) (w : World) (hn : n < 1000) (h : Bz w P M B0 G n D) (h2 : Maps.has D (.int .i64 2) = false) (a2 : D.atKey (.int .i64 2) .nil = .nil) (hN : NodesAt w (some ⟨B0, 0, none⟩) tgN) (base : Nat) (hbM : base ≤ M) :
   Calls Tryz.prog 97 #[.pointer (some ⟨P, 0, none⟩), .int .i64 2] w fun e w' => ∃ G2, e = .returned (.slice (some ⟨G2, 0, none⟩) 1 1) ∧ w.heap.size ≤ G2 ∧ Go.Proofs.YtjhkecnnhddhbaaGreatDoor.IRow w' G2 [3] ∧ w'.ownsMap Tryz.prog 3 slR M (n + 1) (D.put (.int .i64 2) (slD G2 0 1 1)) ∧ Below base w w' ∧ ∀ g, ¬ g = M → g < w.heap.size → w'.heap[g]? = w.heap[g]? := by
 have c1 := h.b1
 have c2 := h.b2
 have hl := look70_no h.own (x := 2) (by decide) (by decide) h2 a2
 have HZ := hide h
 obtain ⟨nb, no, hne, hnc⟩ := hN (by decide)
 cases hne
 have n1 := hnc 2 (by decide)
 simp [tgN] at n1
 obtain ⟨n0, n1, n2, n3, n4, n5⟩ := n1
 have HO := hide (fun w => operands_any ⟨4, 1, 1, 0, 0, 0⟩ w)
 rw [ops_not] at HO
 have hB0 : Below w.heap.size w ((w.alloc (.cells #[.int .i64 4, .int .i64 1, .int .i64 1, .int .i64 0, .int .i64 0, .int .i64 0] 93)).alloc (.cells #[.slice none 0 0, .slice none 0 0, .slice none 0 0] 154)) := bal (bal (Below.refl _ _) _) _
 clear h hnc hN
 go_enter Tryz.func97, Tryz.ntmps97
 go_wp2_with fail
 refine (HO.out _).mono ?_
 rintro e w1 ⟨p1, k1, rfl, hI1, hb1⟩
 have e0 := cell_later hb1 (a := ⟨w.heap.size, 0, none⟩) (v := .int .i64 4) (by simp [go_sem])
 have e1 := cell_later hb1 (a := ⟨w.heap.size, 1, none⟩) (v := .int .i64 1) (by simp [go_sem])
 have e2 := cell_later hb1 (a := ⟨w.heap.size, 2, none⟩) (v := .int .i64 1) (by simp [go_sem])
 have e3 := cell_later hb1 (a := ⟨w.heap.size, 3, none⟩) (v := .int .i64 0) (by simp [go_sem])
 have e4 := cell_later hb1 (a := ⟨w.heap.size, 4, none⟩) (v := .int .i64 0) (by simp [go_sem])
 have e5 := cell_later hb1 (a := ⟨w.heap.size, 5, none⟩) (v := .int .i64 0) (by simp [go_sem])
 have f0 := cell_later hb1 (a := ⟨w.heap.size + 1, 0, none⟩) (v := .slice none 0 0) (by simp [go_sem])
 have f1 := cell_later hb1 (a := ⟨w.heap.size + 1, 1, none⟩) (v := .slice none 0 0) (by simp [go_sem])
 have f2 := cell_later hb1 (a := ⟨w.heap.size + 1, 2, none⟩) (v := .slice none 0 0) (by simp [go_sem])
 have ff : w1.frozen? ⟨w.heap.size + 1, 0, none⟩ = false := by rw [hb1.frozen (by simp)]; simp [go_sem]
 have HB1 := hide (bthen hB0 hb1)
 have HI1 := hide hI1
 have hs1 : w.heap.size + 2 ≤ w1.heap.size := by have := hb1.size; simp at this; omega
 clear hB0 hb1 hI1 c1 c2 n0 n1 n2 n3 n4 n5 hl HO
 go_wp2
 go_loopw [33] (fun i wr => ∃ k : Nat, k ≤ 1 ∧ i = .int .i64 k ∧ ((k = 0 ∧ wr = w1) ∨ (k = 1 ∧ wr = w1.setCell ⟨w.heap.size + 1, 0, none⟩ (.slice (some ⟨G, 0, none⟩) 1 1)))) (fun i _ => 1 - (intOf i).toNat)
 case atStart => exact ⟨0, by omega, rfl, Or.inl ⟨rfl, rfl⟩⟩
 case round =>
   obtain ⟨k, hk, rfl, ⟨rfl, hw1⟩ | ⟨rfl, hw1⟩⟩ := hrel
   · subst hw1
     obtain ⟨b, off, rfl, hc⟩ := HI1.out (by simp)
     have hc0 : wr.cell? ⟨b, off, none⟩ = some (.int .i64 1) := by simpa using hc 0 (by simp)
     have HW := hide (word1_any P M B0 G n D wr (HZ.out.later HB1.out))
     clear hc
     go_wp2_with fail
     refine HW.out.mono ?_
     rintro e w2 ⟨rfl, hw2⟩
     subst hw2
     go_wp2
     go_roundw
     case rel => exact ⟨1, by omega, by go_num, Or.inr ⟨rfl, trivial⟩⟩
     case measure => simp [intOf]
   · have hMl := HZ.out.ltM
     have hGl : G < w.heap.size := World.block_lt_of_cell? _ _ (HZ.out.row 0 (by simp)).1
     have hrow := (HZ.out.later HB1.out).row.kept (Below.heap_setCell w1 ⟨w.heap.size + 1, 0, none⟩ (.slice (some ⟨G, 0, none⟩) 1 1) G (by simp; omega))
     rw [← hw1] at hrow
     have ce : ∀ a v, w1.cell? a = some v → ⟨w.heap.size + 1, 0, none⟩ ≠ a → wr.cell? a = some v := fun a v h hne => by rw [hw1, World.cell?_setCell_other w1 _ _ _ (by simpa using hne)]; exact h
     have p0 := ce _ _ e0 (by simp)
     have p1 := ce _ _ e1 (by simp)
     have p2 := ce _ _ e2 (by simp)
     have p3 := ce _ _ e3 (by simp)
     have p4 := ce _ _ e4 (by simp)
     have p5 := ce _ _ e5 (by simp)
     have r1 := ce _ _ f1 (by simp)
     have r2 := ce _ _ f2 (by simp)
     have r0 : wr.cell? ⟨w.heap.size + 1, 0, none⟩ = some (.slice (some ⟨G, 0, none⟩) 1 1) := by rw [hw1]; exact World.cell?_setCell_same w1 _ _ f0
     have HBW : Hid (Below w.heap.size w wr) := by rw [hw1]; exact HB1.out.setCell (p := ⟨w.heap.size + 1, 0, none⟩) (by simp) _
     have hsz : wr.heap.size = w1.heap.size := by rw [hw1]; simp
     have HT := hide (operateNot_any 1 1 0 0 0 [2] (some ⟨G, 0, none⟩) 1 none none 0 0 0 0 (some ⟨P, 0, none⟩) two_small (by simp) wr (Go.Proofs.YtjhkecnnhddhbaaGreatDoor.irow_ints hrow))
     rw [turn_two] at HT
     clear ce e0 e1 e2 e3 e4 e5 f0 f1 f2 ff hw1 hrow HB1 HI1
     go_wp2_with fail
     refine HT.out.mono ?_
     rintro e w5 ⟨G2, rfl, hG2, hr2, hb5⟩
     have HZ5 := hide (HZ.out.later (bthen HBW.out hb5))
     have s2 := HZ5.out.b2
     obtain ⟨w6, hput, hown6, hg6⟩ := put70 HZ5.out.own (by omega) (x := 2) (by decide) (by decide) G2 0 1 1
     have HR2 := hide hr2
     have HB5 := hide (bthen HBW.out hb5)
     have HG6 := hide hg6
     have HO6 := hide hown6
     clear hr2 hb5 hg6 hown6 p0 p1 p2 p3 p4 p5 r0 r1 r2 HT HZ HBW
     go_wp2
     go_ret
     have hs5 := HB5.out.size
     have hne : ¬ G2 = M := by omega
     refine ⟨G2, rfl, by omega, HR2.out.kept (HG6.out.block G2 (World.block_lt_of_cell? _ _ (HR2.out 0 (by simp)).1) (by simpa using hne)), HO6.out, ?_, ?_⟩
     · exact (HB5.out.mono (by omega)).grown HG6.out (by omega) (fun j hj => by cases hj; omega)
     · intro g h1 h2
       rw [HG6.out.block g (Nat.lt_of_lt_of_le h2 HB5.out.size) (by simpa using h1)]
       exact HB5.out.block g h2
end Go.Proofs.YtjhkecnnhddhbaaGreatDoor.Ev

namespace Go.Proofs.YtjhkecnnhddhbaaGreatDoor.Ev
open Go.RowKit Go.Maps
set_option maxRecDepth 100000
theorem all0_any (P : Nat) (p : Option Addr) (cap : Nat) (w : World) :
   Calls Tryz.prog 77 #[.pointer (some ⟨P, 0, none⟩), .slice p 0 cap] w fun e w' => e = .returned (.slice none 0 0) ∧ w' = w := by
 go_enter Tryz.func77, Tryz.ntmps77
 go_wp2
 go_loopw [5, 10] (fun v i wr => v = .slice none 0 0 ∧ i = .int .i64 0 ∧ wr = w) (fun _ _ _ => 0)
 case atStart => exact ⟨rfl, rfl, rfl⟩
 case round =>
   obtain ⟨rfl, rfl, rfl⟩ := hrel
   go_wp2
   go_ret
   exact ⟨rfl, rfl⟩
set_option maxHeartbeats 4000000 in
theorem all1_any (P : Nat) (p : Option Addr) (cap : Nat) (x y : Int) (Q : World → Prop) (w : World) (hI : IntsAt w p [x])
   (hW : Calls Tryz.prog 97 #[.pointer (some ⟨P, 0, none⟩), .int .i64 x] w fun e w' => ∃ G2, e = .returned (.slice (some ⟨G2, 0, none⟩) 1 1) ∧ Go.Proofs.YtjhkecnnhddhbaaGreatDoor.IRow w' G2 [y] ∧ Q w') :
   Calls Tryz.prog 77 #[.pointer (some ⟨P, 0, none⟩), .slice p 1 cap] w fun e w' => ∃ q k w1, e = .returned (.slice q 1 k) ∧ IntsAt w' q [y] ∧ Q w1 ∧ Below w1.heap.size w1 w' := by
 have HW := hide hW
 clear hW
 obtain ⟨b, off, rfl, hc⟩ := hI (by simp)
 have hc0 : w.cell? ⟨b, off, none⟩ = some (.int .i64 x) := by simpa using hc 0 (by simp)
 clear hc hI
 go_enter Tryz.func77, Tryz.ntmps77
 go_wp2
 go_loopw [5, 10] (fun v i wr => ∃ j : Nat, j ≤ 1 ∧ i = .int .i64 j ∧ ((j = 0 ∧ v = .slice none 0 0 ∧ wr = w) ∨ (j = 1 ∧ Hid (∃ q k w1, v = .slice q 1 k ∧ IntsAt wr q [y] ∧ Q w1 ∧ Below w1.heap.size w1 wr)))) (fun _ i _ => 1 - (intOf i).toNat)
 case atStart => exact ⟨0, by omega, rfl, Or.inl ⟨rfl, rfl, rfl⟩⟩
 case round =>
   obtain ⟨j, hj, rfl, ⟨rfl, rfl, hw1⟩ | ⟨rfl, HR⟩⟩ := hrel
   · subst hw1
     go_wp2_with fail
     refine HW.out.mono ?_
     rintro e w1 ⟨G2, rfl, hr, hq⟩
     have HRG := hide (Go.Proofs.YtjhkecnnhddhbaaGreatDoor.irow_ints hr)
     have HQ := hide hq
     have HO : Hid (w1.ownsRow w1.heap.size 3 1 (.slice none 0 0) ([] : List Int).length (([] : List Int).map (Value.int .i64))) := World.ownsRow_nil _ _ _ _
     clear hr hq
     go_wp2_with (at_builtin; refine Go.Proofs.YtjhkecnnhddhbaaGreatDoor.wpList_append_ints rfl _ _ rfl w1.heap.size _ [] [y] rfl HO.out _ _ rfl HRG.out (fun h => by cases h) (by simp) (by omega) ?_)
     intro v' w6 hown6 hg6
     obtain ⟨q, k, rfl, hiv, _⟩ := Go.Proofs.YtjhkecnnhddhbaaGreatDoor.owns_ints (l := [y]) hown6
     have HS : Hid (∃ q' k' w1, (Value.slice q 1 k) = .slice q' 1 k' ∧ IntsAt w6 q' [y] ∧ Q w1 ∧ Below w1.heap.size w1 w6) := ⟨q, k, w1, rfl, hiv, HQ.out, (Below.refl _ _).grown hg6 (Nat.le_refl _) (fun j hj => by cases hj)⟩
     clear hown6 hg6 hiv
     go_wp2
     go_roundw
     case rel => exact ⟨1, by omega, by go_num, Or.inr ⟨rfl, HS⟩⟩
     case measure => simp [intOf]
   · obtain ⟨q, k, w1, rfl, hi, hq, hb⟩ := HR.out
     have HX := hide (And.intro hi (And.intro hq hb))
     clear hi hq hb
     go_wp2
     go_ret
     exact ⟨q, k, w1, rfl, HX.out.1, HX.out.2.1, HX.out.2.2⟩
end Go.Proofs.YtjhkecnnhddhbaaGreatDoor.Ev

namespace Go.Proofs.YtjhkecnnhddhbaaGreatDoor.Ev
open Go.RowKit Go.Maps
set_option maxRecDepth 100000
theorem Bz.put {w w1 : World} {P M B0 G G2 : Nat} {D : DataW Unit} (h : Bz w P M B0 G 1 D) (hown : w1.ownsMap Tryz.prog 3 slR M 2 (D.put (.int .i64 2) (slD G2 0 1 1))) (hsz : w.heap.size ≤ w1.heap.size) (hk : ∀ g, ¬ g = M → g < w.heap.size → w1.heap[g]? = w.heap[g]?) :
   Bz w1 P M B0 G 2 (D.put (.int .i64 2) (slD G2 0 1 1)) :=
 ⟨kept_cell h.b1 hk h.nePM, kept_cell h.b2 hk h.nePM, hown, by rw [has_put_other (by simp)]; exact h.has1, by rw [atKey_put_other (by simp)]; exact h.at1, h.row.kept (hk _ h.neGM (World.block_lt_of_cell? _ _ (h.row 0 (by simp)).1)), Nat.lt_of_lt_of_le h.ltM hsz, h.nePM, h.neGM⟩
theorem allNexts_any (P M B0 G : Nat) (D : DataW Unit) (base : Nat) (hbM : base ≤ M) (p : Option Addr) (cap : Nat) (w : World) (h : Bz w P M B0 G 1 D) (h2 : Maps.has D (.int .i64 2) = false) (a2 : D.atKey (.int .i64 2) .nil = .nil) (hN : NodesAt w (some ⟨B0, 0, none⟩) tgN) (hI : IntsAt w p [2]) :
   Calls Tryz.prog 77 #[.pointer (some ⟨P, 0, none⟩), .slice p 1 cap] w fun e w' => ∃ q k D', e = .returned (.slice q 1 k) ∧ IntsAt w' q [3] ∧ Bz w' P M B0 G 2 D' ∧ Below base w w' ∧ ∀ g, ¬ g = M → g < w.heap.size → w'.heap[g]? = w.heap[g]? := by
 refine (all1_any P p cap 2 3 (fun w1 => (∃ D', Bz w1 P M B0 G 2 D') ∧ Below base w w1 ∧ ∀ g, ¬ g = M → g < w.heap.size → w1.heap[g]? = w.heap[g]?) w hI
   ((word2_any P M B0 G 1 D w (by omega) h h2 a2 hN base hbM).mono fun e w' ⟨G2, h1, _, h3, h4, h5, h6⟩ => ⟨G2, h1, h3, ⟨_, h.put h4 h5.size h6⟩, h5, h6⟩)).mono fun e w' ⟨q, k, w1, h1, h2, ⟨⟨D', hz⟩, hb, hk⟩, hb1⟩ => ?_
 have := h.ltM
 have hs := hb.size
 refine ⟨q, k, D', h1, h2, hz.later hb1, hb.trans (hb1.mono (by omega)), fun g h1 h2 => ?_⟩
 rw [hb1.block g (by omega)]
 exact hk g h1 h2
theorem allBads_any (P M B0 G n : Nat) (D : DataW Unit) (p : Option Addr) (cap : Nat) (w : World) (h : Bz w P M B0 G n D) (hI : IntsAt w p [1]) :
   Calls Tryz.prog 77 #[.pointer (some ⟨P, 0, none⟩), .slice p 1 cap] w fun e w' => ∃ q k, e = .returned (.slice q 1 k) ∧ IntsAt w' q [2] ∧ Below w.heap.size w w' := by
 refine (all1_any P p cap 1 2 (fun w1 => w1 = w) w hI
   ((word1_any P M B0 G n D w h).mono fun e w' ⟨h1, h2⟩ => ⟨G, h1, by rw [h2]; exact h.row, h2⟩)).mono fun e w' ⟨q, k, w1, h1, h2, h3, hb1⟩ => ?_
 subst h3
 exact ⟨q, k, h1, h2, hb1⟩
theorem tg_wok : Wok tgN := by unfold Wok; decide
theorem tg_in : sumW tgN (sel (isK tgN 2) tgN.length) = 0 := by decide
theorem tg_st : sumW tgN (sel (isK tgN 3) tgN.length) = 1 := by decide
theorem tg_nexts : (sel (isK tgN 3) tgN.length).map (lastV [(1, 2)]) = [2] := by decide
theorem nextOnesT_any (B0 B1 B2 B3 : Nat) (w : World) (hT : TgAt w B0 B1 B2 B3) :
   Calls Tryz.prog 78 #[Mv.val (tgM B0 B1 B2 B3) 3] w fun e w' => ∃ p cap, e = .returned (.slice p 1 cap) ∧ IntsAt w' p [2] ∧ Below w.heap.size w w' := by
 have h := nextOnes_any (some ⟨B0, 0, none⟩) (some ⟨B1, 0, none⟩) (some ⟨B2, 0, none⟩) (some ⟨B3, 0, none⟩) none 3 1 1 1 0 1 1 0 tgN [(1, 2)] (by decide) (by decide) (pairs_in (by decide)) w hT.n hT.x
 rw [tg_nexts] at h
 exact h
theorem bitsT2_any (B0 B1 B2 B3 : Nat) (w : World) (hT : TgAt w B0 B1 B2 B3) :
   Calls Tryz.prog 76 #[.slice (some ⟨B0, 0, none⟩) 3 3, .int .i64 2] w fun e w' => e = .returned (.int .i64 0) ∧ Below w.heap.size w w' := by
 have h := bitsOf_any (some ⟨B0, 0, none⟩) 3 tgN (by decide) tg_wok 2 w hT.n
 rw [tg_in] at h
 exact h
theorem bitsT3_any (B0 B1 B2 B3 : Nat) (w : World) (hT : TgAt w B0 B1 B2 B3) :
   Calls Tryz.prog 76 #[.slice (some ⟨B0, 0, none⟩) 3 3, .int .i64 3] w fun e w' => e = .returned (.int .i64 1) ∧ Below w.heap.size w w' := by
 have h := bitsOf_any (some ⟨B0, 0, none⟩) 3 tgN (by decide) tg_wok 3 w hT.n
 rw [tg_st] at h
 exact h
end Go.Proofs.YtjhkecnnhddhbaaGreatDoor.Ev

namespace Go.Proofs.YtjhkecnnhddhbaaGreatDoor.Ev
open Go.RowKit Go.Maps
set_option maxRecDepth 100000
theorem checkT_any (B0 B1 B2 B3 : Nat) (w : World) (hT : TgAt w B0 B1 B2 B3) :
   Calls Tryz.prog 73 #[Mv.val (tgM B0 B1 B2 B3) 3] w fun e w' => e = .returned (.int .i64 0) ∧ Below w.heap.size w w' := by
 have h := check_any (some ⟨B0, 0, none⟩) (some ⟨B1, 0, none⟩) (some ⟨B2, 0, none⟩) (some ⟨B3, 0, none⟩) none 3 1 1 1 0 tgN [(1, 0)] [(1, 2)] [1] [] (by simp [maxLen, tgN]) (by decide) (by decide) (by simp [maxLen]) (by simp [maxLen]) w hT.n hT.i hT.x hT.b (fun h => by simp at h)
 rw [tg_chk] at h
 exact h
abbrev BoxS (h B0 B1 B2 B3 : Nat) (w' : World) : Prop :=
 w'.cell? ⟨h, 0, none⟩ = some (.slice (some ⟨B0, 0, none⟩) 3 3) ∧ w'.cell? ⟨h, 1, none⟩ = some (.slice (some ⟨B1, 0, none⟩) 1 1) ∧ w'.cell? ⟨h, 2, none⟩ = some (.slice (some ⟨B2, 0, none⟩) 1 1) ∧ w'.cell? ⟨h, 3, none⟩ = some (.slice (some ⟨B3, 0, none⟩) 1 1) ∧ w'.cell? ⟨h, 4, none⟩ = some (.slice none 0 0)
theorem BoxS.kept {h B0 B1 B2 B3 M : Nat} {w w1 : World} (H : BoxS h B0 B1 B2 B3 w) (hk : ∀ g, ¬ g = M → g < w.heap.size → w1.heap[g]? = w.heap[g]?) (hne : h ≠ M) : BoxS h B0 B1 B2 B3 w1 :=
 ⟨kept_cell H.1 hk hne, kept_cell H.2.1 hk hne, kept_cell H.2.2.1 hk hne, kept_cell H.2.2.2.1 hk hne, kept_cell H.2.2.2.2 hk hne⟩
structure ResS (h : Nat) (w' : World) : Prop where
 z0 : w'.cell? ⟨h, 0, none⟩ = some (.int .i64 0)
 z1 : w'.cell? ⟨h, 1, none⟩ = some (.slice none 0 0)
 z2 : w'.cell? ⟨h, 2, none⟩ = some (.int .i64 0)
 z3 : w'.cell? ⟨h, 3, none⟩ = some (.int .i64 0)
 z4 : w'.cell? ⟨h, 4, none⟩ = some (.slice none 0 0)
 z5 : w'.cell? ⟨h, 5, none⟩ = some (.slice none 0 0)
 z6 : w'.cell? ⟨h, 6, none⟩ = some (.slice none 0 0)
 z7 : w'.cell? ⟨h, 7, none⟩ = some (.slice none 0 0)
 zf : ∀ i, w'.frozen? ⟨h, i, none⟩ = false
theorem ResS.kept {h M : Nat} {w w1 : World} (H : ResS h w) (hk : ∀ g, ¬ g = M → g < w.heap.size → w1.heap[g]? = w.heap[g]?) (hne : h ≠ M) : ResS h w1 :=
 ⟨kept_cell H.z0 hk hne, kept_cell H.z1 hk hne, kept_cell H.z2 hk hne, kept_cell H.z3 hk hne, kept_cell H.z4 hk hne, kept_cell H.z5 hk hne, kept_cell H.z6 hk hne, kept_cell H.z7 hk hne, fun i => by rw [World.frozen?_of_block (w := w) (a := ⟨h, i, none⟩) (hk h hne (World.block_lt_of_cell? _ _ H.z0))]; exact H.zf i⟩
theorem ResS.later {h : Nat} {w w1 : World} (H : ResS h w) (hb : Below w.heap.size w w1) : ResS h w1 := H.kept (M := w.heap.size) (fun g _ hg => hb.block g hg) (by have := World.block_lt_of_cell? _ _ H.z0; simp at this; omega)
abbrev newC : Obj := .cells #[.int .i64 0, .slice none 0 0, .int .i64 0, .int .i64 0, .slice none 0 0, .slice none 0 0, .slice none 0 0, .slice none 0 0] 27
theorem res_new (w : World) : ResS w.heap.size (w.alloc newC) := ⟨by simp [go_sem], by simp [go_sem], by simp [go_sem], by simp [go_sem], by simp [go_sem], by simp [go_sem], by simp [go_sem], by simp [go_sem], fun i => by simp [go_sem]⟩
def Off (p : Option Addr) (h : Nat) : Prop := ∀ b off, p = some ⟨b, off, none⟩ → ∀ j, j ≤ 7 → ¬ (b = h ∧ off = j)
theorem off_ne {p : Option Addr} {h : Nat} (H : ∀ b off, p = some ⟨b, off, none⟩ → b ≠ h) : Off p h := fun b off e _ _ h2 => H b off e h2.1
theorem ints_off {w : World} {p : Option Addr} {x : Int} {h j : Nat} (H : IntsAt w p [x]) (ho : Off p h) (hj : j ≤ 7) (v : Value) : IntsAt (w.setCell ⟨h, j, none⟩ v) p [x] := fun h0 => by
 obtain ⟨b, off, rfl, hc⟩ := H h0
 refine ⟨b, off, rfl, fun i hi => ?_⟩
 have hi0 : i = 0 := by simpa using hi
 subst hi0
 rw [World.cell?_setCell_other w _ _ _ (by have := ho b off rfl j hj; simp; omega)]
 exact hc 0 hi
theorem off_of {w : World} {p : Option Addr} {x : Int} {h : Nat} (R : ResS h w) (H : IntsAt w p [x]) (hx : x ≠ 0) : Off p h := fun b off e j hj h2 => by
 obtain ⟨b', off', e', hc⟩ := H (by simp)
 rw [e] at e'
 cases e'
 obtain ⟨rfl, rfl⟩ := h2
 have h1 : w.cell? ⟨b, off, none⟩ = some (.int .i64 x) := by simpa using hc 0 (by simp)
 have : off = 0 ∨ off = 1 ∨ off = 2 ∨ off = 3 ∨ off = 4 ∨ off = 5 ∨ off = 6 ∨ off = 7 := by omega
 rcases this with rfl | rfl | rfl | rfl | rfl | rfl | rfl | rfl
 · rw [R.z0] at h1; cases h1; exact hx rfl
 · rw [R.z1] at h1; cases h1
 · rw [R.z2] at h1; cases h1; exact hx rfl
 · rw [R.z3] at h1; cases h1; exact hx rfl
 · rw [R.z4] at h1; cases h1
 · rw [R.z5] at h1; cases h1
 · rw [R.z6] at h1; cases h1
 · rw [R.z7] at h1; cases h1
theorem ints_lt {w : World} {p : Option Addr} {x : Int} (H : IntsAt w p [x]) : ∀ b off, p = some ⟨b, off, none⟩ → b < w.heap.size := fun b off e => by
 obtain ⟨b', off', e', hc⟩ := H (by simp)
 rw [e] at e'
 cases e'
 exact World.block_lt_of_cell? _ _ (hc 0 (by simp))
structure Ez (w wr : World) (n P M B0 B1 B2 B3 : Nat) (pi : Option Addr) : Prop where
 x : BoxS w.heap.size B0 B1 B2 B3 wr
 g : ∃ X pv cv, wr.cell? ⟨P, 0, none⟩ = some (.pointer (some ⟨X, 0, none⟩)) ∧ wr.cell? ⟨X, 0, none⟩ = some (.int .i64 1) ∧ wr.cell? ⟨X, 1, none⟩ = some (.slice pv 0 cv) ∧ P ≠ M ∧ X ≠ M ∧ P < n ∧ X < n
 r : ResS (w.heap.size + 1) wr
 i : IntsAt wr pi [0]
 li : ∀ b off, pi = some ⟨b, off, none⟩ → w.heap.size + 2 ≤ b ∧ b < n ∧ b ≠ M
 bel : Below w.heap.size w wr
 hn : w.heap.size + 2 ≤ n
 hs : n ≤ wr.heap.size
 hM : w.heap.size + 2 ≤ M
 hMn : M < n
theorem Ez.kept {w wr w1 : World} {n P M B0 B1 B2 B3 : Nat} {pi : Option Addr} (H : Ez w wr n P M B0 B1 B2 B3 pi) (hb : Below w.heap.size wr w1) (hk : ∀ g, ¬ g = M → g < wr.heap.size → w1.heap[g]? = wr.heap[g]?) : Ez w w1 n P M B0 B1 B2 B3 pi := by
 obtain ⟨X, pv, cv, h1, h2, h3, h4, h5, h6, h7⟩ := H.g
 have hM := H.hM
 refine ⟨H.x.kept hk (by omega), ⟨X, pv, cv, kept_cell h1 hk h4, kept_cell h2 hk h5, kept_cell h3 hk h5, h4, h5, h6, h7⟩, H.r.kept hk (by omega), ?_, H.li, H.bel.trans hb, H.hn, Nat.le_trans H.hs hb.size, H.hM, H.hMn⟩
 intro h0
 obtain ⟨b, off, e, hc⟩ := H.i h0
 exact ⟨b, off, e, fun i hi => kept_cell (hc i hi) hk (H.li b off e).2.2⟩
theorem Ez.later {w wr w1 : World} {n P M B0 B1 B2 B3 : Nat} {pi : Option Addr} (H : Ez w wr n P M B0 B1 B2 B3 pi) (hb : Below wr.heap.size wr w1) : Ez w w1 n P M B0 B1 B2 B3 pi := H.kept (hb.mono (by have := H.bel.size; omega)) (fun g _ hg => hb.block g hg)
theorem Ez.alloc {w wr : World} {n P M B0 B1 B2 B3 : Nat} {pi : Option Addr} (H : Ez w wr n P M B0 B1 B2 B3 pi) (o : Obj) : Ez w (wr.alloc o) n P M B0 B1 B2 B3 pi := H.later (bal (Below.refl _ _) o)
structure Fz (w wx : World) (n P M B0 B1 B2 B3 blk : Nat) (pi : Option Addr) (ci : Nat) (pn : Option Addr) (cn : Nat) (pb : Option Addr) (cb : Nat) : Prop where
 e : Ez w wx n P M B0 B1 B2 B3 pi
 a : IntsAt wx pn [3]
 b : IntsAt wx pb [2]
 c0 : wx.cell? ⟨blk, 0, none⟩ = some (.int .i64 0)
 c1 : wx.cell? ⟨blk, 1, none⟩ = some (.slice none 0 0)
 c2 : wx.cell? ⟨blk, 2, none⟩ = some (.int .i64 0)
 c3 : wx.cell? ⟨blk, 3, none⟩ = some (.int .i64 1)
 c4 : wx.cell? ⟨blk, 4, none⟩ = some (.slice pi 1 ci)
 c5 : wx.cell? ⟨blk, 5, none⟩ = some (.slice pn 1 cn)
 c6 : wx.cell? ⟨blk, 6, none⟩ = some (.slice pb 1 cb)
 c7 : wx.cell? ⟨blk, 7, none⟩ = some (.slice none 0 0)
 cf : ∀ i, wx.frozen? ⟨blk, i, none⟩ = false
 oa : Off pn blk
 ob : Off pb blk
 hb : n ≤ blk
theorem fz_alloc {w w8 : World} {n P M B0 B1 B2 B3 : Nat} {pi pn pb : Option Addr} {ci cn cb : Nat} (H : Ez w w8 n P M B0 B1 B2 B3 pi) (ha : IntsAt w8 pn [3]) (hb : IntsAt w8 pb [2]) :
   Fz w (w8.alloc (.cells #[.int .i64 0, .slice none 0 0, .int .i64 0, .int .i64 1, .slice pi 1 ci, .slice pn 1 cn, .slice pb 1 cb, .slice none 0 0] 27)) n P M B0 B1 B2 B3 w8.heap.size pi ci pn cn pb cb :=
 ⟨H.alloc _, ha.later (bal (Below.refl _ _) _), hb.later (bal (Below.refl _ _) _), by simp [go_sem], by simp [go_sem], by simp [go_sem], by simp [go_sem], by simp [go_sem], by simp [go_sem], by simp [go_sem], by simp [go_sem], fun i => by simp [go_sem], off_ne fun b off e => Nat.ne_of_lt (ints_lt ha b off e), off_ne fun b off e => Nat.ne_of_lt (ints_lt hb b off e), H.hs⟩
theorem Ez.set {w wr : World} {n P M B0 B1 B2 B3 blk : Nat} {pi : Option Addr} (H : Ez w wr n P M B0 B1 B2 B3 pi) (hb : n ≤ blk) (j : Nat) (v : Value) : Ez w (wr.setCell ⟨blk, j, none⟩ v) n P M B0 B1 B2 B3 pi := by
 obtain ⟨X, pv, cv, h1, h2, h3, h4, h5, h6, h7⟩ := H.g
 have hn := H.hn
 have hk : ∀ g, ¬ g = blk → g < wr.heap.size → (wr.setCell ⟨blk, j, none⟩ v).heap[g]? = wr.heap[g]? := fun g hg _ => Below.heap_setCell wr _ _ g (by simpa using hg)
 refine ⟨H.x.kept hk (by omega), ⟨X, pv, cv, kept_cell h1 hk (by simp; omega), kept_cell h2 hk (by simp; omega), kept_cell h3 hk (by simp; omega), h4, h5, h6, h7⟩, H.r.kept hk (by omega), ?_, H.li, H.bel.setCell (p := ⟨blk, j, none⟩) (by simp; omega) v, H.hn, by simpa using H.hs, H.hM, H.hMn⟩
 intro h0
 obtain ⟨b, off, e, hc⟩ := H.i h0
 exact ⟨b, off, e, fun i hi => kept_cell (hc i hi) hk (by have := (H.li b off e).2.1; simp; omega)⟩
abbrev set8 (w8 : World) (blk : Nat) (v0 v1 v2 v3 v4 v5 v6 v7 : Value) : World := ((((((((w8.setCell ⟨blk, 0, none⟩ v0).setCell ⟨blk, 1, none⟩ v1).setCell ⟨blk, 2, none⟩ v2).setCell ⟨blk, 3, none⟩ v3).setCell ⟨blk, 4, none⟩ v4).setCell ⟨blk, 5, none⟩ v5).setCell ⟨blk, 6, none⟩ v6).setCell ⟨blk, 7, none⟩ v7)
theorem ints_set8 {w : World} {p : Option Addr} {x : Int} {h : Nat} (H : IntsAt w p [x]) (ho : Off p h) (v0 v1 v2 v3 v4 v5 v6 v7 : Value) : IntsAt (set8 w h v0 v1 v2 v3 v4 v5 v6 v7) p [x] :=
 ints_off (ints_off (ints_off (ints_off (ints_off (ints_off (ints_off (ints_off H ho (by omega) _) ho (by omega) _) ho (by omega) _) ho (by omega) _) ho (by omega) _) ho (by omega) _) ho (by omega) _) ho (by omega) _
theorem set8_cells {w : World} {h : Nat} (R : ResS h w) (v0 v1 v2 v3 v4 v5 v6 v7 : Value) :
   (set8 w h v0 v1 v2 v3 v4 v5 v6 v7).cell? ⟨h, 0, none⟩ = some v0 ∧ (set8 w h v0 v1 v2 v3 v4 v5 v6 v7).cell? ⟨h, 1, none⟩ = some v1 ∧ (set8 w h v0 v1 v2 v3 v4 v5 v6 v7).cell? ⟨h, 2, none⟩ = some v2 ∧ (set8 w h v0 v1 v2 v3 v4 v5 v6 v7).cell? ⟨h, 3, none⟩ = some v3 ∧ (set8 w h v0 v1 v2 v3 v4 v5 v6 v7).cell? ⟨h, 4, none⟩ = some v4 ∧ (set8 w h v0 v1 v2 v3 v4 v5 v6 v7).cell? ⟨h, 5, none⟩ = some v5 ∧ (set8 w h v0 v1 v2 v3 v4 v5 v6 v7).cell? ⟨h, 6, none⟩ = some v6 ∧ (set8 w h v0 v1 v2 v3 v4 v5 v6 v7).cell? ⟨h, 7, none⟩ = some v7 := by
 obtain ⟨z0, z1, z2, z3, z4, z5, z6, z7, _⟩ := R
 refine ⟨?_, ?_, ?_, ?_, ?_, ?_, ?_, ?_⟩ <;> simp [set8, go_sem, *]
theorem fz_set {w w8 : World} {n P M B0 B1 B2 B3 blk : Nat} {pi pn pb : Option Addr} {ci cn cb : Nat} (H : Ez w w8 n P M B0 B1 B2 B3 pi) (ha : IntsAt w8 pn [3]) (hb : IntsAt w8 pb [2]) (R : ResS blk w8) (hn : n ≤ blk) :
   Fz w (set8 w8 blk (.int .i64 0) (.slice none 0 0) (.int .i64 0) (.int .i64 1) (.slice pi 1 ci) (.slice pn 1 cn) (.slice pb 1 cb) (.slice none 0 0)) n P M B0 B1 B2 B3 blk pi ci pn cn pb cb := by
 obtain ⟨c0, c1, c2, c3, c4, c5, c6, c7⟩ := set8_cells R (.int .i64 0) (.slice none 0 0) (.int .i64 0) (.int .i64 1) (.slice pi 1 ci) (.slice pn 1 cn) (.slice pb 1 cb) (.slice none 0 0)
 have oa := off_of R ha (by decide)
 have ob := off_of R hb (by decide)
 exact ⟨((((((((H.set hn 0 _).set hn 1 _).set hn 2 _).set hn 3 _).set hn 4 _).set hn 5 _).set hn 6 _).set hn 7 _), ints_set8 ha oa _ _ _ _ _ _ _ _, ints_set8 hb ob _ _ _ _ _ _ _ _, c0, c1, c2, c3, c4, c5, c6, c7, fun i => by simp only [set8, World.frozen?_setCell]; exact R.zf i, oa, ob, hn⟩
end Go.Proofs.YtjhkecnnhddhbaaGreatDoor.Ev
