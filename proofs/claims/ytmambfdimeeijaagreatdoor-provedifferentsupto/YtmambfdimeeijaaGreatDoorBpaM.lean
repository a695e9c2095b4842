/- The bits of a node of the toggle. -/
import Derived.Test.YtmambfdimeeijaaGreatDoorBlM
import Derived.Test.YtmambfdimeeijaaGreatDoorMhM
namespace Go.Proofs.YtmambfdimeeijaaGreatDoor.Ev
open Go.RowKit Go.Maps
set_option maxRecDepth 100000
theorem Bz.later {w w1 : World} {P M B0 G n : Nat} {D : DataW Unit} (h : Bz w P M B0 G n D) (hb : Below w.heap.size w w1) : Bz w1 P M B0 G n D :=
 ⟨cell_later hb h.b1, cell_later hb h.b2, map_block h.own (hb.block _ h.ltM), h.has1, h.at1, h.row.kept (hb.block _ (World.block_lt_of_cell? _ _ (h.row 0 (by simp)).1)), Nat.lt_of_lt_of_le h.ltM hb.size, h.nePM, h.neGM⟩
theorem ops_con : opsL ⟨1, 1, 0, 0, 0, 0⟩ = [] := by decide
theorem ops_not : opsL ⟨4, 1, 1, 0, 0, 0⟩ = [1] := by decide
theorem turn_two : [(2 : Int)].map Go.Proofs.YtmambfdimeeijaaGreatDoor.turn = [3] := by decide
theorem two_small : ∀ x ∈ [(2 : Int)], 0 ≤ x ∧ x ≤ 10000000 := by decide
theorem word1_any (P M B0 G n : Nat) (D : DataW Unit) (w : World) (h : Bz w P M B0 G n D) :
   Calls Tryz.prog 97 #[.pointer (some ⟨P, 0, none⟩), .int .i64 1] w fun e w' => e = .returned (.slice (some ⟨G, 0, none⟩) 1 1) ∧ w' = w := by
 have c2 := h.b2
 have hl := look70_yes h.own (x := 1) (by decide) (by decide) h.has1 h.at1
 clear h
 go_enter Tryz.func97, Tryz.ntmps97
 go_wp2
 go_ret
 exact ⟨rfl, rfl⟩
set_option maxHeartbeats 2000000 in
theorem operateCon_any (xa xb xc : Int) (p py pz : Option Addr) (lx ly lz cx cy cz : Nat) (pb : Option Addr) (w : World) :
   Calls Tryz.prog 125 #[.pointer pb, .agg #[.int .i64 1, .int .i64 1, .int .i64 xa, .int .i64 xb, .int .i64 xc, .int .i64 0], .slice p lx cx, .slice py ly cy, .slice pz lz cz] w fun e w' => ∃ G, e = .returned (.slice (some ⟨G, 0, none⟩) 1 1) ∧ w.heap.size ≤ G ∧ Go.Proofs.YtmambfdimeeijaaGreatDoor.IRow w' G [0] ∧ Below w.heap.size w w' := by
 have HCO := hide (fun w' => Go.Proofs.YtmambfdimeeijaaGreatDoor.constant_any 0 1 (by decide) (by decide) (by decide) w')
 rw [tg_bits] at HCO
 have HT : Hid (∀ w' : World, Calls Tryz.prog 92 #[.int .i64 0, .int .i64 1] w' fun e w'' => ∃ G, e = .returned (.slice (some ⟨G, 0, none⟩) 1 1) ∧ w'.heap.size ≤ G ∧ Go.Proofs.YtmambfdimeeijaaGreatDoor.IRow w'' G [0] ∧ Below w'.heap.size w' w'') := HCO.out
 clear HCO
 go_enter Tryz.func125, Tryz.ntmps125
 go_wp2_with fail
 refine (HT.out _).mono ?_
 rintro e w1 ⟨G, rfl, hG, hr, hb⟩
 have hG2 : w.heap.size ≤ G := by simp at hG; omega
 have HR := hide hr
 have HB := hide (bthen (bal (bal (bal (bal (bal (Below.refl w.heap.size w) _) _) _) _) _) hb)
 clear hr hb hG HT
 go_wp2
 go_ret
 exact ⟨G, rfl, hG2, HR.out, HB.out⟩
set_option maxHeartbeats 4000000 in
theorem word2_any (P M B0 G n : Nat) (D : DataW Unit) (w : World) (hn : n < 1000) (h : Bz w P M B0 G n D) (h2 : Maps.has D (.int .i64 2) = false) (a2 : D.atKey (.int .i64 2) .nil = .nil) (hN : NodesAt w (some ⟨B0, 0, none⟩) tgN) (base : Nat) (hbM : base ≤ M) :
   Calls Tryz.prog 97 #[.pointer (some ⟨P, 0, none⟩), .int .i64 2] w fun e w' => ∃ G2, e = .returned (.slice (some ⟨G2, 0, none⟩) 1 1) ∧ w.heap.size ≤ G2 ∧ Go.Proofs.YtmambfdimeeijaaGreatDoor.IRow w' G2 [3] ∧ w'.ownsMap Tryz.prog 3 slR M (n + 1) (D.put (.int .i64 2) (slD G2 0 1 1)) ∧ Below base w w' ∧ ∀ g, ¬ g = M → g < w.heap.size → w'.heap[g]? = w.heap[g]? := by
 have c1 := h.b1
 have c2 := h.b2
 have hl := look70_no h.own (x := 2) (by decide) (by decide) h2 a2
 have HZ := hide h
 obtain ⟨nb, no, hne, hnc⟩ := hN (by decide)
 cases hne
 have n1 := hnc 2 (by decide)
 simp [tgN] at n1
 obtain ⟨n0, n1, n2, n3, n4, n5⟩ := n1
 have HO := hide (fun w => operands_any ⟨4, 1, 1, 0, 0, 0⟩ w)
 rw [ops_not] at HO
 have hB0 : Below w.heap.size w ((w.alloc (.cells #[.int .i64 4, .int .i64 1, .int .i64 1, .int .i64 0, .int .i64 0, .int .i64 0] 73)).alloc (.cells #[.slice none 0 0, .slice none 0 0, .slice none 0 0] 154)) := bal (bal (Below.refl _ _) _) _
 clear h hnc hN
 go_enter Tryz.func97, Tryz.ntmps97
 go_wp2_with fail
 refine (HO.out _).mono ?_
 rintro e w1 ⟨p1, k1, rfl, hI1, hb1⟩
 have e0 := cell_later hb1 (a := ⟨w.heap.size, 0, none⟩) (v := .int .i64 4) (by simp [go_sem])
 have e1 := cell_later hb1 (a := ⟨w.heap.size, 1, none⟩) (v := .int .i64 1) (by simp [go_sem])
 have e2 := cell_later hb1 (a := ⟨w.heap.size, 2, none⟩) (v := .int .i64 1) (by simp [go_sem])
 have e3 := cell_later hb1 (a := ⟨w.heap.size, 3, none⟩) (v := .int .i64 0) (by simp [go_sem])
 have e4 := cell_later hb1 (a := ⟨w.heap.size, 4, none⟩) (v := .int .i64 0) (by simp [go_sem])
 have e5 := cell_later hb1 (a := ⟨w.heap.size, 5, none⟩) (v := .int .i64 0) (by simp [go_sem])
 have f0 := cell_later hb1 (a := ⟨w.heap.size + 1, 0, none⟩) (v := .slice none 0 0) (by simp [go_sem])
 have f1 := cell_later hb1 (a := ⟨w.heap.size + 1, 1, none⟩) (v := .slice none 0 0) (by simp [go_sem])
 have f2 := cell_later hb1 (a := ⟨w.heap.size + 1, 2, none⟩) (v := .slice none 0 0) (by simp [go_sem])
 have ff : w1.frozen? ⟨w.heap.size + 1, 0, none⟩ = false := by rw [hb1.frozen (by simp)]; simp [go_sem]
 have HB1 := hide (bthen hB0 hb1)
 have HI1 := hide hI1
 have hs1 : w.heap.size + 2 ≤ w1.heap.size := by have := hb1.size; simp at this; omega
 clear hB0 hb1 hI1 c1 c2 n0 n1 n2 n3 n4 n5 hl HO
 go_wp2
 go_loopw [33] (fun i wr => ∃ k : Nat, k ≤ 1 ∧ i = .int .i64 k ∧ ((k = 0 ∧ wr = w1) ∨ (k = 1 ∧ wr = w1.setCell ⟨w.heap.size + 1, 0, none⟩ (.slice (some ⟨G, 0, none⟩) 1 1)))) (fun i _ => 1 - (intOf i).toNat)
 case atStart => exact ⟨0, by omega, rfl, Or.inl ⟨rfl, rfl⟩⟩
 case round =>
   obtain ⟨k, hk, rfl, ⟨rfl, hw1⟩ | ⟨rfl, hw1⟩⟩ := hrel
   · subst hw1
     obtain ⟨b, off, rfl, hc⟩ := HI1.out (by simp)
     have hc0 : wr.cell? ⟨b, off, none⟩ = some (.int .i64 1) := by simpa using hc 0 (by simp)
     have HW := hide (word1_any P M B0 G n D wr (HZ.out.later HB1.out))
     clear hc
     go_wp2_with fail
     refine HW.out.mono ?_
     rintro e w2 ⟨rfl, hw2⟩
     subst hw2
     go_wp2
     go_roundw
     case rel => exact ⟨1, by omega, by go_num, Or.inr ⟨rfl, trivial⟩⟩
     case measure => simp [intOf]
   · have hMl := HZ.out.ltM
     have hGl : G < w.heap.size := World.block_lt_of_cell? _ _ (HZ.out.row 0 (by simp)).1
     have hrow := (HZ.out.later HB1.out).row.kept (Below.heap_setCell w1 ⟨w.heap.size + 1, 0, none⟩ (.slice (some ⟨G, 0, none⟩) 1 1) G (by simp; omega))
     rw [← hw1] at hrow
     have ce : ∀ a v, w1.cell? a = some v → ⟨w.heap.size + 1, 0, none⟩ ≠ a → wr.cell? a = some v := fun a v h hne => by rw [hw1, World.cell?_setCell_other w1 _ _ _ (by simpa using hne)]; exact h
     have p0 := ce _ _ e0 (by simp)
     have p1 := ce _ _ e1 (by simp)
     have p2 := ce _ _ e2 (by simp)
     have p3 := ce _ _ e3 (by simp)
     have p4 := ce _ _ e4 (by simp)
     have p5 := ce _ _ e5 (by simp)
     have r1 := ce _ _ f1 (by simp)
     have r2 := ce _ _ f2 (by simp)
     have r0 : wr.cell? ⟨w.heap.size + 1, 0, none⟩ = some (.slice (some ⟨G, 0, none⟩) 1 1) := by rw [hw1]; exact World.cell?_setCell_same w1 _ _ f0
     have HBW : Hid (Below w.heap.size w wr) := by rw [hw1]; exact HB1.out.setCell (p := ⟨w.heap.size + 1, 0, none⟩) (by simp) _
     have hsz : wr.heap.size = w1.heap.size := by rw [hw1]; simp
     have HT := hide (operateNot_any 1 1 0 0 0 [2] (some ⟨G, 0, none⟩) 1 none none 0 0 0 0 (some ⟨P, 0, none⟩) two_small (by simp) wr (Go.Proofs.YtmambfdimeeijaaGreatDoor.irow_ints hrow))
     rw [turn_two] at HT
     clear ce e0 e1 e2 e3 e4 e5 f0 f1 f2 ff hw1 hrow HB1 HI1
     go_wp2_with fail
     refine HT.out.mono ?_
     rintro e w5 ⟨G2, rfl, hG2, hr2, hb5⟩
     have HZ5 := hide (HZ.out.later (bthen HBW.out hb5))
     have s2 := HZ5.out.b2
     obtain ⟨w6, hput, hown6, hg6⟩ := put70 HZ5.out.own (by omega) (x := 2) (by decide) (by decide) G2 0 1 1
     have HR2 := hide hr2
     have HB5 := hide (bthen HBW.out hb5)
     have HG6 := hide hg6
     have HO6 := hide hown6
     clear hr2 hb5 hg6 hown6 p0 p1 p2 p3 p4 p5 r0 r1 r2 HT HZ HBW
     go_wp2
     go_ret
     have hs5 := HB5.out.size
     have hne : ¬ G2 = M := by omega
     refine ⟨G2, rfl, by omega, HR2.out.kept (HG6.out.block G2 (World.block_lt_of_cell? _ _ (HR2.out 0 (by simp)).1) (by simpa using hne)), HO6.out, ?_, ?_⟩
     · exact (HB5.out.mono (by omega)).grown HG6.out (by omega) (fun j hj => by cases hj; omega)
     · intro g h1 h2
       rw [HG6.out.block g (Nat.lt_of_lt_of_le h2 HB5.out.size) (by simpa using h1)]
       exact HB5.out.block g h2
set_option maxHeartbeats 4000000 in
theorem word0_any (P M B0 G n : Nat) (D : DataW Unit) (w : World) (hn : n < 1000) (h : Bz w P M B0 G n D) (h2 : Maps.has D (.int .i64 0) = false) (a2 : D.atKey (.int .i64 0) .nil = .nil) (hN : NodesAt w (some ⟨B0, 0, none⟩) tgN) (base : Nat) (hbM : base ≤ M) :
   Calls Tryz.prog 97 #[.pointer (some ⟨P, 0, none⟩), .int .i64 0] w fun e w' => ∃ G2, e = .returned (.slice (some ⟨G2, 0, none⟩) 1 1) ∧ w.heap.size ≤ G2 ∧ Go.Proofs.YtmambfdimeeijaaGreatDoor.IRow w' G2 [0] ∧ w'.ownsMap Tryz.prog 3 slR M (n + 1) (D.put (.int .i64 0) (slD G2 0 1 1)) ∧ Below base w w' ∧ ∀ g, ¬ g = M → g < w.heap.size → w'.heap[g]? = w.heap[g]? := by
 have c1 := h.b1
 have c2 := h.b2
 have hl := look70_no h.own (x := 0) (by decide) (by decide) h2 a2
 have HZ := hide h
 obtain ⟨nb, no, hne, hnc⟩ := hN (by decide)
 cases hne
 have n1 := hnc 0 (by decide)
 simp [tgN] at n1
 obtain ⟨n0, n1, n2, n3, n4, n5⟩ := n1
 have HO := hide (fun w => operands_any ⟨1, 1, 0, 0, 0, 0⟩ w)
 rw [ops_con] at HO
 have hB0 : Below w.heap.size w ((w.alloc (.cells #[.int .i64 1, .int .i64 1, .int .i64 0, .int .i64 0, .int .i64 0, .int .i64 0] 73)).alloc (.cells #[.slice none 0 0, .slice none 0 0, .slice none 0 0] 154)) := bal (bal (Below.refl _ _) _) _
 clear h hnc hN
 go_enter Tryz.func97, Tryz.ntmps97
 go_wp2_with fail
 refine (HO.out _).mono ?_
 rintro e w1 ⟨p1, k1, rfl, hI1, hb1⟩
 have e0 := cell_later hb1 (a := ⟨w.heap.size, 0, none⟩) (v := .int .i64 1) (by simp [go_sem])
 have e1 := cell_later hb1 (a := ⟨w.heap.size, 1, none⟩) (v := .int .i64 1) (by simp [go_sem])
 have e2 := cell_later hb1 (a := ⟨w.heap.size, 2, none⟩) (v := .int .i64 0) (by simp [go_sem])
 have e3 := cell_later hb1 (a := ⟨w.heap.size, 3, none⟩) (v := .int .i64 0) (by simp [go_sem])
 have e4 := cell_later hb1 (a := ⟨w.heap.size, 4, none⟩) (v := .int .i64 0) (by simp [go_sem])
 have e5 := cell_later hb1 (a := ⟨w.heap.size, 5, none⟩) (v := .int .i64 0) (by simp [go_sem])
 have f0 := cell_later hb1 (a := ⟨w.heap.size + 1, 0, none⟩) (v := .slice none 0 0) (by simp [go_sem])
 have f1 := cell_later hb1 (a := ⟨w.heap.size + 1, 1, none⟩) (v := .slice none 0 0) (by simp [go_sem])
 have f2 := cell_later hb1 (a := ⟨w.heap.size + 1, 2, none⟩) (v := .slice none 0 0) (by simp [go_sem])
 have ff : w1.frozen? ⟨w.heap.size + 1, 0, none⟩ = false := by rw [hb1.frozen (by simp)]; simp [go_sem]
 have HB1 := hide (bthen hB0 hb1)
 have HI1 := hide hI1
 have hs1 : w.heap.size + 2 ≤ w1.heap.size := by have := hb1.size; simp at this; omega
 clear hB0 hb1 hI1 c1 c2 n0 n1 n2 n3 n4 n5 hl HO
 go_wp2
 go_loopw [33] (fun i wr => i = .int .i64 0 ∧ wr = w1) (fun i _ => 0)
 case atStart => exact ⟨rfl, rfl⟩
 case round =>
   obtain ⟨rfl, hw1⟩ := hrel
   obtain rfl : w1 = wr := hw1.symm
   clear hw1
   have HT := hide (operateCon_any 0 0 0 none none none 0 0 0 0 0 0 (some ⟨P, 0, none⟩) w1)
   have hMl := HZ.out.ltM
   go_wp2_with fail
   refine HT.out.mono ?_
   rintro e w5 ⟨G2, rfl, hG2, hr2, hb5⟩
   have HZ5 := hide (HZ.out.later (bthen HB1.out hb5))
   have s2 := HZ5.out.b2
   obtain ⟨w6, hput, hown6, hg6⟩ := put70 HZ5.out.own (by omega) (x := 0) (by decide) (by decide) G2 0 1 1
   have HR2 := hide hr2
   have HB5 := hide (bthen HB1.out hb5)
   have HG6 := hide hg6
   have HO6 := hide hown6
   clear hr2 hb5 hg6 hown6 e0 e1 e2 e3 e4 e5 f0 f1 f2 ff HT HZ HB1
   go_wp2
   go_ret
   have hs5 := HB5.out.size
   have hne : ¬ G2 = M := by omega
   refine ⟨G2, rfl, by omega, HR2.out.kept (HG6.out.block G2 (World.block_lt_of_cell? _ _ (HR2.out 0 (by simp)).1) (by simpa using hne)), HO6.out, ?_, ?_⟩
   · exact (HB5.out.mono (by omega)).grown HG6.out (by omega) (fun j hj => by cases hj; omega)
   · intro g h1 h2
     rw [HG6.out.block g (Nat.lt_of_lt_of_le h2 HB5.out.size) (by simpa using h1)]
     exact HB5.out.block g h2
theorem wordZ_any {z y : Int} (hz : Zy z y) (P M B0 G n : Nat) (D : DataW Unit) (w : World) (hn : n < 1000) (h : Bz w P M B0 G n D) (h2 : Maps.has D (.int .i64 z) = false) (a2 : D.atKey (.int .i64 z) .nil = .nil) (hN : NodesAt w (some ⟨B0, 0, none⟩) tgN) (base : Nat) (hbM : base ≤ M) :
   Calls Tryz.prog 97 #[.pointer (some ⟨P, 0, none⟩), .int .i64 z] w fun e w' => ∃ G2, e = .returned (.slice (some ⟨G2, 0, none⟩) 1 1) ∧ w.heap.size ≤ G2 ∧ Go.Proofs.YtmambfdimeeijaaGreatDoor.IRow w' G2 [y] ∧ w'.ownsMap Tryz.prog 3 slR M (n + 1) (D.put (.int .i64 z) (slD G2 0 1 1)) ∧ Below base w w' ∧ ∀ g, ¬ g = M → g < w.heap.size → w'.heap[g]? = w.heap[g]? := by
 rcases hz with ⟨rfl, rfl⟩ | ⟨rfl, rfl⟩
 · exact word2_any P M B0 G n D w hn h h2 a2 hN base hbM
 · exact word0_any P M B0 G n D w hn h h2 a2 hN base hbM
end Go.Proofs.YtmambfdimeeijaaGreatDoor.Ev

namespace Go.Proofs.YtmambfdimeeijaaGreatDoor.Ev
open Go.RowKit Go.Maps
set_option maxRecDepth 100000
theorem all0_any (P : Nat) (p : Option Addr) (cap : Nat) (w : World) :
   Calls Tryz.prog 66 #[.pointer (some ⟨P, 0, none⟩), .slice p 0 cap] w fun e w' => e = .returned (.slice none 0 0) ∧ w' = w := by
 go_enter Tryz.func66, Tryz.ntmps66
 go_wp2
 go_loopw [5, 10] (fun v i wr => v = .slice none 0 0 ∧ i = .int .i64 0 ∧ wr = w) (fun _ _ _ => 0)
 case atStart => exact ⟨rfl, rfl, rfl⟩
 case round =>
   obtain ⟨rfl, rfl, rfl⟩ := hrel
   go_wp2
   go_ret
   exact ⟨rfl, rfl⟩
set_option maxHeartbeats 4000000 in
theorem all1_any (P : Nat) (p : Option Addr) (cap : Nat) (x y : Int) (Q : World → Prop) (w : World) (hI : IntsAt w p [x])
   (hW : Calls Tryz.prog 97 #[.pointer (some ⟨P, 0, none⟩), .int .i64 x] w fun e w' => ∃ G2, e = .returned (.slice (some ⟨G2, 0, none⟩) 1 1) ∧ Go.Proofs.YtmambfdimeeijaaGreatDoor.IRow w' G2 [y] ∧ Q w') :
   Calls Tryz.prog 66 #[.pointer (some ⟨P, 0, none⟩), .slice p 1 cap] w fun e w' => ∃ q k w1, e = .returned (.slice q 1 k) ∧ IntsAt w' q [y] ∧ Q w1 ∧ Below w1.heap.size w1 w' ∧ ∀ b off, q = some ⟨b, off, none⟩ → w1.heap.size ≤ b := by
 have HW := hide hW
 clear hW
 obtain ⟨b, off, rfl, hc⟩ := hI (by simp)
 have hc0 : w.cell? ⟨b, off, none⟩ = some (.int .i64 x) := by simpa using hc 0 (by simp)
 clear hc hI
 go_enter Tryz.func66, Tryz.ntmps66
 go_wp2
 go_loopw [5, 10] (fun v i wr => ∃ j : Nat, j ≤ 1 ∧ i = .int .i64 j ∧ ((j = 0 ∧ v = .slice none 0 0 ∧ wr = w) ∨ (j = 1 ∧ Hid (∃ q k w1, v = .slice q 1 k ∧ IntsAt wr q [y] ∧ Q w1 ∧ Below w1.heap.size w1 wr ∧ ∀ b off, q = some ⟨b, off, none⟩ → w1.heap.size ≤ b)))) (fun _ i _ => 1 - (intOf i).toNat)
 case atStart => exact ⟨0, by omega, rfl, Or.inl ⟨rfl, rfl, rfl⟩⟩
 case round =>
   obtain ⟨j, hj, rfl, ⟨rfl, rfl, hw1⟩ | ⟨rfl, HR⟩⟩ := hrel
   · subst hw1
     go_wp2_with fail
     refine HW.out.mono ?_
     rintro e w1 ⟨G2, rfl, hr, hq⟩
     have HRG := hide (Go.Proofs.YtmambfdimeeijaaGreatDoor.irow_ints hr)
     have HQ := hide hq
     have HO : Hid (w1.ownsRow w1.heap.size 3 1 (.slice none 0 0) ([] : List Int).length (([] : List Int).map (Value.int .i64))) := World.ownsRow_nil _ _ _ _
     clear hr hq
     go_wp2_with (at_builtin; refine Go.Proofs.YtmambfdimeeijaaGreatDoor.wpList_append_ints rfl _ _ rfl w1.heap.size _ [] [y] rfl HO.out _ _ rfl HRG.out (fun h => by cases h) (by simp) (by omega) ?_)
     intro v' w6 hown6 hg6
     obtain ⟨q, k, rfl, hiv, _⟩ := Go.Proofs.YtmambfdimeeijaaGreatDoor.owns_ints (l := [y]) hown6
     have HS : Hid (∃ q' k' w1, (Value.slice q 1 k) = .slice q' 1 k' ∧ IntsAt w6 q' [y] ∧ Q w1 ∧ Below w1.heap.size w1 w6 ∧ ∀ b off, q' = some ⟨b, off, none⟩ → w1.heap.size ≤ b) := ⟨q, k, w1, rfl, hiv, HQ.out, (Below.refl _ _).grown hg6 (Nat.le_refl _) (fun j hj => by cases hj), fun b off e => by subst e; exact (hown6.lt b rfl).1⟩
     clear hown6 hg6 hiv
     go_wp2
     go_roundw
     case rel => exact ⟨1, by omega, by go_num, Or.inr ⟨rfl, HS⟩⟩
     case measure => simp [intOf]
   · obtain ⟨q, k, w1, rfl, hi, hq, hb, hf⟩ := HR.out
     have HX := hide (And.intro hi (And.intro hq (And.intro hb hf)))
     clear hi hq hb hf
     go_wp2
     go_ret
     exact ⟨q, k, w1, rfl, HX.out.1, HX.out.2.1, HX.out.2.2⟩
end Go.Proofs.YtmambfdimeeijaaGreatDoor.Ev

namespace Go.Proofs.YtmambfdimeeijaaGreatDoor.Ev
open Go.RowKit Go.Maps
set_option maxRecDepth 100000
theorem Bz.put {z : Int} (hz : z ≠ 1) {w w1 : World} {P M B0 G G2 : Nat} {D : DataW Unit} (h : Bz w P M B0 G 1 D) (hown : w1.ownsMap Tryz.prog 3 slR M 2 (D.put (.int .i64 z) (slD G2 0 1 1))) (hsz : w.heap.size ≤ w1.heap.size) (hk : ∀ g, ¬ g = M → g < w.heap.size → w1.heap[g]? = w.heap[g]?) :
   Bz w1 P M B0 G 2 (D.put (.int .i64 z) (slD G2 0 1 1)) :=
 ⟨kept_cell h.b1 hk h.nePM, kept_cell h.b2 hk h.nePM, hown, by rw [has_put_other (by simp; omega)]; exact h.has1, by rw [atKey_put_other (by simp; omega)]; exact h.at1, h.row.kept (hk _ h.neGM (World.block_lt_of_cell? _ _ (h.row 0 (by simp)).1)), Nat.lt_of_lt_of_le h.ltM hsz, h.nePM, h.neGM⟩
theorem allNexts_any {z y : Int} (hz : Zy z y) (P M B0 G : Nat) (D : DataW Unit) (base : Nat) (hbM : base ≤ M) (p : Option Addr) (cap : Nat) (w : World) (h : Bz w P M B0 G 1 D) (h2 : Maps.has D (.int .i64 z) = false) (a2 : D.atKey (.int .i64 z) .nil = .nil) (hN : NodesAt w (some ⟨B0, 0, none⟩) tgN) (hI : IntsAt w p [z]) :
   Calls Tryz.prog 66 #[.pointer (some ⟨P, 0, none⟩), .slice p 1 cap] w fun e w' => ∃ q k D', e = .returned (.slice q 1 k) ∧ IntsAt w' q [y] ∧ Bz w' P M B0 G 2 D' ∧ Below base w w' ∧ (∀ g, ¬ g = M → g < w.heap.size → w'.heap[g]? = w.heap[g]?) ∧ ∀ b off, q = some ⟨b, off, none⟩ → w.heap.size ≤ b := by
 refine (all1_any P p cap z y (fun w1 => (∃ D', Bz w1 P M B0 G 2 D') ∧ Below base w w1 ∧ ∀ g, ¬ g = M → g < w.heap.size → w1.heap[g]? = w.heap[g]?) w hI
   ((wordZ_any hz P M B0 G 1 D w (by omega) h h2 a2 hN base hbM).mono fun e w' ⟨G2, h1, _, h3, h4, h5, h6⟩ => ⟨G2, h1, h3, ⟨_, Bz.put hz.ne h h4 h5.size h6⟩, h5, h6⟩)).mono fun e w' ⟨q, k, w1, h1, h2, ⟨⟨D', hz⟩, hb, hk⟩, hb1, hf1⟩ => ?_
 have := h.ltM
 have hs := hb.size
 refine ⟨q, k, D', h1, h2, hz.later hb1, hb.trans (hb1.mono (by omega)), fun g h1 h2 => ?_, fun b off e => Nat.le_trans hs (hf1 b off e)⟩
 rw [hb1.block g (by omega)]
 exact hk g h1 h2
theorem allBads_any (P M B0 G n : Nat) (D : DataW Unit) (p : Option Addr) (cap : Nat) (w : World) (h : Bz w P M B0 G n D) (hI : IntsAt w p [1]) :
   Calls Tryz.prog 66 #[.pointer (some ⟨P, 0, none⟩), .slice p 1 cap] w fun e w' => ∃ q k, e = .returned (.slice q 1 k) ∧ IntsAt w' q [2] ∧ Below w.heap.size w w' := by
 refine (all1_any P p cap 1 2 (fun w1 => w1 = w) w hI
   ((word1_any P M B0 G n D w h).mono fun e w' ⟨h1, h2⟩ => ⟨G, h1, by rw [h2]; exact h.row, h2⟩)).mono fun e w' ⟨q, k, w1, h1, h2, h3, hb1, _⟩ => ?_
 subst h3
 exact ⟨q, k, h1, h2, hb1⟩
theorem tg_wok : Wok tgN := by unfold Wok; decide
theorem tg_in : sumW tgN (sel (isK tgN 2) tgN.length) = 0 := by decide
theorem tg_st : sumW tgN (sel (isK tgN 3) tgN.length) = 1 := by decide
theorem tg_nexts {z y : Int} (h : Zy z y) : (sel (isK tgN 3) tgN.length).map (lastV [(1, z)]) = [z] := by rcases h with ⟨rfl, _⟩ | ⟨rfl, _⟩ <;> decide
theorem nextOnesT_any {z y : Int} (hz : Zy z y) (B0 B1 B2 B3 : Nat) (w : World) (hT : TgAt w B0 B1 B2 B3 z) :
   Calls Tryz.prog 67 #[Mv.val (tgM B0 B1 B2 B3) 3] w fun e w' => ∃ p cap, e = .returned (.slice p 1 cap) ∧ IntsAt w' p [z] ∧ Below w.heap.size w w' := by
 have h := nextOnes_any (some ⟨B0, 0, none⟩) (some ⟨B1, 0, none⟩) (some ⟨B2, 0, none⟩) (some ⟨B3, 0, none⟩) none 3 1 1 1 0 1 1 0 tgN [(1, z)] (by decide) (by simp) (pairs_in (by rcases hz with ⟨rfl, _⟩ | ⟨rfl, _⟩ <;> decide)) w hT.n hT.x
 rw [tg_nexts hz] at h
 exact h
theorem bitsT2_any {z : Int} (B0 B1 B2 B3 : Nat) (w : World) (hT : TgAt w B0 B1 B2 B3 z) :
   Calls Tryz.prog 65 #[.slice (some ⟨B0, 0, none⟩) 3 3, .int .i64 2] w fun e w' => e = .returned (.int .i64 0) ∧ Below w.heap.size w w' := by
 have h := bitsOf_any (some ⟨B0, 0, none⟩) 3 tgN (by decide) tg_wok 2 w hT.n
 rw [tg_in] at h
 exact h
theorem bitsT3_any {z : Int} (B0 B1 B2 B3 : Nat) (w : World) (hT : TgAt w B0 B1 B2 B3 z) :
   Calls Tryz.prog 65 #[.slice (some ⟨B0, 0, none⟩) 3 3, .int .i64 3] w fun e w' => e = .returned (.int .i64 1) ∧ Below w.heap.size w w' := by
 have h := bitsOf_any (some ⟨B0, 0, none⟩) 3 tgN (by decide) tg_wok 3 w hT.n
 rw [tg_st] at h
 exact h
end Go.Proofs.YtmambfdimeeijaaGreatDoor.Ev

namespace Go.Proofs.YtmambfdimeeijaaGreatDoor.Ev
open Go.RowKit Go.Maps
set_option maxRecDepth 100000
theorem checkT_any {z y : Int} (hz : Zy z y) (B0 B1 B2 B3 : Nat) (w : World) (hT : TgAt w B0 B1 B2 B3 z) :
   Calls Tryz.prog 62 #[Mv.val (tgM B0 B1 B2 B3) 3] w fun e w' => e = .returned (.int .i64 0) ∧ Below w.heap.size w w' := by
 have h := check_any (some ⟨B0, 0, none⟩) (some ⟨B1, 0, none⟩) (some ⟨B2, 0, none⟩) (some ⟨B3, 0, none⟩) none 3 1 1 1 0 tgN [(1, 0)] [(1, z)] [1] [] (by simp [maxLen, tgN]) (by decide) (by simp) (by simp [maxLen]) (by simp [maxLen]) w hT.n hT.i hT.x hT.b (fun h => by simp at h)
 rw [tg_chk hz] at h
 exact h
abbrev BoxS (h B0 B1 B2 B3 : Nat) (w' : World) : Prop :=
 w'.cell? ⟨h, 0, none⟩ = some (.slice (some ⟨B0, 0, none⟩) 3 3) ∧ w'.cell? ⟨h, 1, none⟩ = some (.slice (some ⟨B1, 0, none⟩) 1 1) ∧ w'.cell? ⟨h, 2, none⟩ = some (.slice (some ⟨B2, 0, none⟩) 1 1) ∧ w'.cell? ⟨h, 3, none⟩ = some (.slice (some ⟨B3, 0, none⟩) 1 1) ∧ w'.cell? ⟨h, 4, none⟩ = some (.slice none 0 0)
theorem BoxS.kept {h B0 B1 B2 B3 M : Nat} {w w1 : World} (H : BoxS h B0 B1 B2 B3 w) (hk : ∀ g, ¬ g = M → g < w.heap.size → w1.heap[g]? = w.heap[g]?) (hne : h ≠ M) : BoxS h B0 B1 B2 B3 w1 :=
 ⟨kept_cell H.1 hk hne, kept_cell H.2.1 hk hne, kept_cell H.2.2.1 hk hne, kept_cell H.2.2.2.1 hk hne, kept_cell H.2.2.2.2 hk hne⟩
structure ResS (h : Nat) (w' : World) : Prop where
 z0 : w'.cell? ⟨h, 0, none⟩ = some (.int .i64 0)
 z1 : w'.cell? ⟨h, 1, none⟩ = some (.slice none 0 0)
 z2 : w'.cell? ⟨h, 2, none⟩ = some (.int .i64 0)
 z3 : w'.cell? ⟨h, 3, none⟩ = some (.int .i64 0)
 z4 : w'.cell? ⟨h, 4, none⟩ = some (.slice none 0 0)
 z5 : w'.cell? ⟨h, 5, none⟩ = some (.slice none 0 0)
 z6 : w'.cell? ⟨h, 6, none⟩ = some (.slice none 0 0)
 z7 : w'.cell? ⟨h, 7, none⟩ = some (.slice none 0 0)
 zf : ∀ i, w'.frozen? ⟨h, i, none⟩ = false
theorem ResS.kept {h M : Nat} {w w1 : World} (H : ResS h w) (hk : ∀ g, ¬ g = M → g < w.heap.size → w1.heap[g]? = w.heap[g]?) (hne : h ≠ M) : ResS h w1 :=
 ⟨kept_cell H.z0 hk hne, kept_cell H.z1 hk hne, kept_cell H.z2 hk hne, kept_cell H.z3 hk hne, kept_cell H.z4 hk hne, kept_cell H.z5 hk hne, kept_cell H.z6 hk hne, kept_cell H.z7 hk hne, fun i => by rw [World.frozen?_of_block (w := w) (a := ⟨h, i, none⟩) (hk h hne (World.block_lt_of_cell? _ _ H.z0))]; exact H.zf i⟩
theorem ResS.later {h : Nat} {w w1 : World} (H : ResS h w) (hb : Below w.heap.size w w1) : ResS h w1 := H.kept (M := w.heap.size) (fun g _ hg => hb.block g hg) (by have := World.block_lt_of_cell? _ _ H.z0; simp at this; omega)
abbrev newC : Obj := .cells #[.int .i64 0, .slice none 0 0, .int .i64 0, .int .i64 0, .slice none 0 0, .slice none 0 0, .slice none 0 0, .slice none 0 0] 27
theorem res_new (w : World) : ResS w.heap.size (w.alloc newC) := ⟨by simp [go_sem], by simp [go_sem], by simp [go_sem], by simp [go_sem], by simp [go_sem], by simp [go_sem], by simp [go_sem], by simp [go_sem], fun i => by simp [go_sem]⟩
def Off (p : Option Addr) (h : Nat) : Prop := ∀ b off, p = some ⟨b, off, none⟩ → ∀ j, j ≤ 7 → ¬ (b = h ∧ off = j)
theorem off_ne {p : Option Addr} {h : Nat} (H : ∀ b off, p = some ⟨b, off, none⟩ → b ≠ h) : Off p h := fun b off e _ _ h2 => H b off e h2.1
theorem ints_off {w : World} {p : Option Addr} {x : Int} {h j : Nat} (H : IntsAt w p [x]) (ho : Off p h) (hj : j ≤ 7) (v : Value) : IntsAt (w.setCell ⟨h, j, none⟩ v) p [x] := fun h0 => by
 obtain ⟨b, off, rfl, hc⟩ := H h0
 refine ⟨b, off, rfl, fun i hi => ?_⟩
 have hi0 : i = 0 := by simpa using hi
 subst hi0
 rw [World.cell?_setCell_other w _ _ _ (by have := ho b off rfl j hj; simp; omega)]
 exact hc 0 hi
theorem off_of {w : World} {p : Option Addr} {x : Int} {h : Nat} (R : ResS h w) (H : IntsAt w p [x]) (hx : x ≠ 0) : Off p h := fun b off e j hj h2 => by
 obtain ⟨b', off', e', hc⟩ := H (by simp)
 rw [e] at e'
 cases e'
 obtain ⟨rfl, rfl⟩ := h2
 have h1 : w.cell? ⟨b, off, none⟩ = some (.int .i64 x) := by simpa using hc 0 (by simp)
 have : off = 0 ∨ off = 1 ∨ off = 2 ∨ off = 3 ∨ off = 4 ∨ off = 5 ∨ off = 6 ∨ off = 7 := by omega
 rcases this with rfl | rfl | rfl | rfl | rfl | rfl | rfl | rfl
 · rw [R.z0] at h1; cases h1; exact hx rfl
 · rw [R.z1] at h1; cases h1
 · rw [R.z2] at h1; cases h1; exact hx rfl
 · rw [R.z3] at h1; cases h1; exact hx rfl
 · rw [R.z4] at h1; cases h1
 · rw [R.z5] at h1; cases h1
 · rw [R.z6] at h1; cases h1
 · rw [R.z7] at h1; cases h1
theorem off_old {w : World} {p : Option Addr} {h : Nat} (R : ResS h w) (hf : ∀ b off, p = some ⟨b, off, none⟩ → w.heap.size ≤ b) : Off p h := off_ne fun b off e => by have := hf b off e; have := World.block_lt_of_cell? _ _ R.z0; simp at this; omega
theorem ints_lt {w : World} {p : Option Addr} {x : Int} (H : IntsAt w p [x]) : ∀ b off, p = some ⟨b, off, none⟩ → b < w.heap.size := fun b off e => by
 obtain ⟨b', off', e', hc⟩ := H (by simp)
 rw [e] at e'
 cases e'
 exact World.block_lt_of_cell? _ _ (hc 0 (by simp))
structure Ez (w wr : World) (n P M B0 B1 B2 B3 : Nat) (pi : Option Addr) : Prop where
 x : BoxS w.heap.size B0 B1 B2 B3 wr
 g : ∃ X pv cv, wr.cell? ⟨P, 0, none⟩ = some (.pointer (some ⟨X, 0, none⟩)) ∧ wr.cell? ⟨X, 0, none⟩ = some (.int .i64 1) ∧ wr.cell? ⟨X, 1, none⟩ = some (.slice pv 0 cv) ∧ P ≠ M ∧ X ≠ M ∧ P < n ∧ X < n
 r : ResS (w.heap.size + 1) wr
 i : IntsAt wr pi [0]
 li : ∀ b off, pi = some ⟨b, off, none⟩ → w.heap.size + 2 ≤ b ∧ b < n ∧ b ≠ M
 bel : Below w.heap.size w wr
 hn : w.heap.size + 2 ≤ n
 hs : n ≤ wr.heap.size
 hM : w.heap.size + 2 ≤ M
 hMn : M < n
theorem Ez.kept {w wr w1 : World} {n P M B0 B1 B2 B3 : Nat} {pi : Option Addr} (H : Ez w wr n P M B0 B1 B2 B3 pi) (hb : Below w.heap.size wr w1) (hk : ∀ g, ¬ g = M → g < wr.heap.size → w1.heap[g]? = wr.heap[g]?) : Ez w w1 n P M B0 B1 B2 B3 pi := by
 obtain ⟨X, pv, cv, h1, h2, h3, h4, h5, h6, h7⟩ := H.g
 have hM := H.hM
 refine ⟨H.x.kept hk (by omega), ⟨X, pv, cv, kept_cell h1 hk h4, kept_cell h2 hk h5, kept_cell h3 hk h5, h4, h5, h6, h7⟩, H.r.kept hk (by omega), ?_, H.li, H.bel.trans hb, H.hn, Nat.le_trans H.hs hb.size, H.hM, H.hMn⟩
 intro h0
 obtain ⟨b, off, e, hc⟩ := H.i h0
 exact ⟨b, off, e, fun i hi => kept_cell (hc i hi) hk (H.li b off e).2.2⟩
theorem Ez.later {w wr w1 : World} {n P M B0 B1 B2 B3 : Nat} {pi : Option Addr} (H : Ez w wr n P M B0 B1 B2 B3 pi) (hb : Below wr.heap.size wr w1) : Ez w w1 n P M B0 B1 B2 B3 pi := H.kept (hb.mono (by have := H.bel.size; omega)) (fun g _ hg => hb.block g hg)
theorem Ez.alloc {w wr : World} {n P M B0 B1 B2 B3 : Nat} {pi : Option Addr} (H : Ez w wr n P M B0 B1 B2 B3 pi) (o : Obj) : Ez w (wr.alloc o) n P M B0 B1 B2 B3 pi := H.later (bal (Below.refl _ _) o)
structure Fz (w wx : World) (n P M B0 B1 B2 B3 blk : Nat) (pi : Option Addr) (ci : Nat) (pn : Option Addr) (cn : Nat) (pb : Option Addr) (cb : Nat) (y : Int) : Prop where
 e : Ez w wx n P M B0 B1 B2 B3 pi
 a : IntsAt wx pn [y]
 b : IntsAt wx pb [2]
 c0 : wx.cell? ⟨blk, 0, none⟩ = some (.int .i64 0)
 c1 : wx.cell? ⟨blk, 1, none⟩ = some (.slice none 0 0)
 c2 : wx.cell? ⟨blk, 2, none⟩ = some (.int .i64 0)
 c3 : wx.cell? ⟨blk, 3, none⟩ = some (.int .i64 1)
 c4 : wx.cell? ⟨blk, 4, none⟩ = some (.slice pi 1 ci)
 c5 : wx.cell? ⟨blk, 5, none⟩ = some (.slice pn 1 cn)
 c6 : wx.cell? ⟨blk, 6, none⟩ = some (.slice pb 1 cb)
 c7 : wx.cell? ⟨blk, 7, none⟩ = some (.slice none 0 0)
 cf : ∀ i, wx.frozen? ⟨blk, i, none⟩ = false
 oa : Off pn blk
 ob : Off pb blk
 hb : n ≤ blk
 op : Off pn (w.heap.size + 1)
theorem off_new {w w6 w' : World} {n P M B0 B1 B2 B3 : Nat} {pi p : Option Addr} (H : Ez w w6 n P M B0 B1 B2 B3 pi) (hf : ∀ b off, p = some ⟨b, off, none⟩ → w'.heap.size ≤ b) (hs : w6.heap.size ≤ w'.heap.size) : Off p (w.heap.size + 1) := off_ne fun b off e => by have := hf b off e; have := H.hs; have := H.hn; omega
theorem fz_alloc {y : Int} {w w8 : World} {n P M B0 B1 B2 B3 : Nat} {pi pn pb : Option Addr} {ci cn cb : Nat} (H : Ez w w8 n P M B0 B1 B2 B3 pi) (ha : IntsAt w8 pn [y]) (hb : IntsAt w8 pb [2]) (hop : Off pn (w.heap.size + 1)) :
   Fz w (w8.alloc (.cells #[.int .i64 0, .slice none 0 0, .int .i64 0, .int .i64 1, .slice pi 1 ci, .slice pn 1 cn, .slice pb 1 cb, .slice none 0 0] 27)) n P M B0 B1 B2 B3 w8.heap.size pi ci pn cn pb cb y :=
 ⟨H.alloc _, ha.later (bal (Below.refl _ _) _), hb.later (bal (Below.refl _ _) _), by simp [go_sem], by simp [go_sem], by simp [go_sem], by simp [go_sem], by simp [go_sem], by simp [go_sem], by simp [go_sem], by simp [go_sem], fun i => by simp [go_sem], off_ne fun b off e => Nat.ne_of_lt (ints_lt ha b off e), off_ne fun b off e => Nat.ne_of_lt (ints_lt hb b off e), H.hs, hop⟩
theorem Ez.set {w wr : World} {n P M B0 B1 B2 B3 blk : Nat} {pi : Option Addr} (H : Ez w wr n P M B0 B1 B2 B3 pi) (hb : n ≤ blk) (j : Nat) (v : Value) : Ez w (wr.setCell ⟨blk, j, none⟩ v) n P M B0 B1 B2 B3 pi := by
 obtain ⟨X, pv, cv, h1, h2, h3, h4, h5, h6, h7⟩ := H.g
 have hn := H.hn
 have hk : ∀ g, ¬ g = blk → g < wr.heap.size → (wr.setCell ⟨blk, j, none⟩ v).heap[g]? = wr.heap[g]? := fun g hg _ => Below.heap_setCell wr _ _ g (by simpa using hg)
 refine ⟨H.x.kept hk (by omega), ⟨X, pv, cv, kept_cell h1 hk (by simp; omega), kept_cell h2 hk (by simp; omega), kept_cell h3 hk (by simp; omega), h4, h5, h6, h7⟩, H.r.kept hk (by omega), ?_, H.li, H.bel.setCell (p := ⟨blk, j, none⟩) (by simp; omega) v, H.hn, by simpa using H.hs, H.hM, H.hMn⟩
 intro h0
 obtain ⟨b, off, e, hc⟩ := H.i h0
 exact ⟨b, off, e, fun i hi => kept_cell (hc i hi) hk (by have := (H.li b off e).2.1; simp; omega)⟩
abbrev set8 (w8 : World) (blk : Nat) (v0 v1 v2 v3 v4 v5 v6 v7 : Value) : World := ((((((((w8.setCell ⟨blk, 0, none⟩ v0).setCell ⟨blk, 1, none⟩ v1).setCell ⟨blk, 2, none⟩ v2).setCell ⟨blk, 3, none⟩ v3).setCell ⟨blk, 4, none⟩ v4).setCell ⟨blk, 5, none⟩ v5).setCell ⟨blk, 6, none⟩ v6).setCell ⟨blk, 7, none⟩ v7)
theorem ints_set8 {w : World} {p : Option Addr} {x : Int} {h : Nat} (H : IntsAt w p [x]) (ho : Off p h) (v0 v1 v2 v3 v4 v5 v6 v7 : Value) : IntsAt (set8 w h v0 v1 v2 v3 v4 v5 v6 v7) p [x] :=
 ints_off (ints_off (ints_off (ints_off (ints_off (ints_off (ints_off (ints_off H ho (by omega) _) ho (by omega) _) ho (by omega) _) ho (by omega) _) ho (by omega) _) ho (by omega) _) ho (by omega) _) ho (by omega) _
theorem set8_cells {w : World} {h : Nat} (R : ResS h w) (v0 v1 v2 v3 v4 v5 v6 v7 : Value) :
   (set8 w h v0 v1 v2 v3 v4 v5 v6 v7).cell? ⟨h, 0, none⟩ = some v0 ∧ (set8 w h v0 v1 v2 v3 v4 v5 v6 v7).cell? ⟨h, 1, none⟩ = some v1 ∧ (set8 w h v0 v1 v2 v3 v4 v5 v6 v7).cell? ⟨h, 2, none⟩ = some v2 ∧ (set8 w h v0 v1 v2 v3 v4 v5 v6 v7).cell? ⟨h, 3, none⟩ = some v3 ∧ (set8 w h v0 v1 v2 v3 v4 v5 v6 v7).cell? ⟨h, 4, none⟩ = some v4 ∧ (set8 w h v0 v1 v2 v3 v4 v5 v6 v7).cell? ⟨h, 5, none⟩ = some v5 ∧ (set8 w h v0 v1 v2 v3 v4 v5 v6 v7).cell? ⟨h, 6, none⟩ = some v6 ∧ (set8 w h v0 v1 v2 v3 v4 v5 v6 v7).cell? ⟨h, 7, none⟩ = some v7 := by
 obtain ⟨z0, z1, z2, z3, z4, z5, z6, z7, _⟩ := R
 refine ⟨?_, ?_, ?_, ?_, ?_, ?_, ?_, ?_⟩ <;> simp [set8, go_sem, *]
theorem fz_set {y : Int} {w w8 : World} {n P M B0 B1 B2 B3 blk : Nat} {pi pn pb : Option Addr} {ci cn cb : Nat} (H : Ez w w8 n P M B0 B1 B2 B3 pi) (ha : IntsAt w8 pn [y]) (hb : IntsAt w8 pb [2]) (R : ResS blk w8) (hn : n ≤ blk) (oa : Off pn blk) (hop : Off pn (w.heap.size + 1)) :
   Fz w (set8 w8 blk (.int .i64 0) (.slice none 0 0) (.int .i64 0) (.int .i64 1) (.slice pi 1 ci) (.slice pn 1 cn) (.slice pb 1 cb) (.slice none 0 0)) n P M B0 B1 B2 B3 blk pi ci pn cn pb cb y := by
 obtain ⟨c0, c1, c2, c3, c4, c5, c6, c7⟩ := set8_cells R (.int .i64 0) (.slice none 0 0) (.int .i64 0) (.int .i64 1) (.slice pi 1 ci) (.slice pn 1 cn) (.slice pb 1 cb) (.slice none 0 0)
 have ob := off_of R hb (by decide)
 exact ⟨((((((((H.set hn 0 _).set hn 1 _).set hn 2 _).set hn 3 _).set hn 4 _).set hn 5 _).set hn 6 _).set hn 7 _), ints_set8 ha oa _ _ _ _ _ _ _ _, ints_set8 hb ob _ _ _ _ _ _ _ _, c0, c1, c2, c3, c4, c5, c6, c7, fun i => by simp only [set8, World.frozen?_setCell]; exact R.zf i, oa, ob, hn, hop⟩
end Go.Proofs.YtmambfdimeeijaaGreatDoor.Ev
