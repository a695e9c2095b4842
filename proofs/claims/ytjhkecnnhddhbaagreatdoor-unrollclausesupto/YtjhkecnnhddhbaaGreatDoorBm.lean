/- The bits of a node of the toggle. -/
import Derived.Test.YtjhkecnnhddhbaaGreatDoorBl
import Derived.Test.YtjhkecnnhddhbaaGreatDoorMg
namespace Go.Proofs.YtjhkecnnhddhbaaGreatDoor.Ev
open Go.RowKit Go.Maps
set_option maxRecDepth 100000
set_option maxRecDepth 100000

theorem Bz.later {w w1 : World} {P M B0 G n : Nat} {D : DataW Unit} (h : Bz w P M B0 G n D) (hb : Below w.heap.size w w1) : Bz w1 P M B0 G n D :=
  ⟨cell_later hb h.b1, cell_later hb h.b2, map_block h.own (hb.block _ h.ltM), h.has1, h.at1, h.row.kept (hb.block _ (World.block_lt_of_cell? _ _ (h.row 0 (by simp)).1)), Nat.lt_of_lt_of_le h.ltM hb.size, h.nePM, h.neGM⟩
theorem ops_not : opsL ⟨4, 1, 1, 0, 0, 0⟩ = [1] := by decide
theorem turn_two : [(2 : Int)].map Go.Proofs.YtjhkecnnhddhbaaGreatDoor.turn = [3] := by decide
theorem two_small : ∀ x ∈ [(2 : Int)], 0 ≤ x ∧ x ≤ 10000000 := by decide
/-- The bits that are there already. -/
theorem word1_any (P M B0 G n : Nat) (D : DataW Unit) (w : World) (h : Bz w P M B0 G n D) :
    Calls Tryz.prog 97 #[.pointer (some ⟨P, 0, none⟩), .int .i64 1] w fun e w' => e = .returned (.slice (some ⟨G, 0, none⟩) 1 1) ∧ w' = w := by
  have c2 := h.b2
  have hl := look70_yes h.own (x := 1) (by decide) (by decide) h.has1 h.at1
  clear h
  go_enter Tryz.func97, Tryz.ntmps97
  go_wp2
  go_ret
  exact ⟨rfl, rfl⟩

set_option maxHeartbeats 4000000 in
/-- The bits of the third node, made of the second's. -/
theorem word2_any (P M B0 G n : Nat) (D : DataW Unit) (w : World) (hn : n < 1000) (h : Bz w P M B0 G n D) (h2 : Maps.has D (.int .i64 2) = false) (a2 : D.atKey (.int .i64 2) .nil = .nil) (hN : NodesAt w (some ⟨B0, 0, none⟩) tgN) (base : Nat) (hbM : base ≤ M) :
    Calls Tryz.prog 97 #[.pointer (some ⟨P, 0, none⟩), .int .i64 2] w fun e w' => ∃ G2, e = .returned (.slice (some ⟨G2, 0, none⟩) 1 1) ∧ w.heap.size ≤ G2 ∧ Go.Proofs.YtjhkecnnhddhbaaGreatDoor.IRow w' G2 [3] ∧ w'.ownsMap Tryz.prog 3 slR M (n + 1) (D.put (.int .i64 2) (slD G2 0 1 1)) ∧ Below base w w' ∧ ∀ g, ¬ g = M → g < w.heap.size → w'.heap[g]? = w.heap[g]? := by
  have c1 := h.b1
  have c2 := h.b2
  have hl := look70_no h.own (x := 2) (by decide) (by decide) h2 a2
  have HZ := hide h
  obtain ⟨nb, no, hne, hnc⟩ := hN (by decide)
  cases hne
  have n1 := hnc 2 (by decide)
  simp [tgN] at n1
  obtain ⟨n0, n1, n2, n3, n4, n5⟩ := n1
  have HO := hide (fun w => operands_any ⟨4, 1, 1, 0, 0, 0⟩ w)
  rw [ops_not] at HO
  have hB0 : Below w.heap.size w ((w.alloc (.cells #[.int .i64 4, .int .i64 1, .int .i64 1, .int .i64 0, .int .i64 0, .int .i64 0] 93)).alloc (.cells #[.slice none 0 0, .slice none 0 0, .slice none 0 0] 154)) := bal (bal (Below.refl _ _) _) _
  clear h hnc hN
  go_enter Tryz.func97, Tryz.ntmps97
  go_wp2_with fail
  refine (HO.out _).mono ?_
  rintro e w1 ⟨p1, k1, rfl, hI1, hb1⟩
  have e0 := cell_later hb1 (a := ⟨w.heap.size, 0, none⟩) (v := .int .i64 4) (by simp [go_sem])
  have e1 := cell_later hb1 (a := ⟨w.heap.size, 1, none⟩) (v := .int .i64 1) (by simp [go_sem])
  have e2 := cell_later hb1 (a := ⟨w.heap.size, 2, none⟩) (v := .int .i64 1) (by simp [go_sem])
  have e3 := cell_later hb1 (a := ⟨w.heap.size, 3, none⟩) (v := .int .i64 0) (by simp [go_sem])
  have e4 := cell_later hb1 (a := ⟨w.heap.size, 4, none⟩) (v := .int .i64 0) (by simp [go_sem])
  have e5 := cell_later hb1 (a := ⟨w.heap.size, 5, none⟩) (v := .int .i64 0) (by simp [go_sem])
  have f0 := cell_later hb1 (a := ⟨w.heap.size + 1, 0, none⟩) (v := .slice none 0 0) (by simp [go_sem])
  have f1 := cell_later hb1 (a := ⟨w.heap.size + 1, 1, none⟩) (v := .slice none 0 0) (by simp [go_sem])
  have f2 := cell_later hb1 (a := ⟨w.heap.size + 1, 2, none⟩) (v := .slice none 0 0) (by simp [go_sem])
  have ff : w1.frozen? ⟨w.heap.size + 1, 0, none⟩ = false := by rw [hb1.frozen (by simp)]; simp [go_sem]
  have HB1 := hide (bthen hB0 hb1)
  have HI1 := hide hI1
  have hs1 : w.heap.size + 2 ≤ w1.heap.size := by have := hb1.size; simp at this; omega
  clear hB0 hb1 hI1 c1 c2 n0 n1 n2 n3 n4 n5 hl HO
  go_wp2
  go_loopw [33] (fun i wr => ∃ k : Nat, k ≤ 1 ∧ i = .int .i64 k ∧ ((k = 0 ∧ wr = w1) ∨ (k = 1 ∧ wr = w1.setCell ⟨w.heap.size + 1, 0, none⟩ (.slice (some ⟨G, 0, none⟩) 1 1)))) (fun i _ => 1 - (intOf i).toNat)
  case atStart => exact ⟨0, by omega, rfl, Or.inl ⟨rfl, rfl⟩⟩
  case round =>
    obtain ⟨k, hk, rfl, ⟨rfl, hw1⟩ | ⟨rfl, hw1⟩⟩ := hrel
    · subst hw1
      obtain ⟨b, off, rfl, hc⟩ := HI1.out (by simp)
      have hc0 : wr.cell? ⟨b, off, none⟩ = some (.int .i64 1) := by simpa using hc 0 (by simp)
      have HW := hide (word1_any P M B0 G n D wr (HZ.out.later HB1.out))
      clear hc
      go_wp2_with fail
      refine HW.out.mono ?_
      rintro e w2 ⟨rfl, hw2⟩
      subst hw2
      go_wp2
      go_roundw
      case rel => exact ⟨1, by omega, by go_num, Or.inr ⟨rfl, trivial⟩⟩
      case measure => simp [intOf]
    · have hMl := HZ.out.ltM
      have hGl : G < w.heap.size := World.block_lt_of_cell? _ _ (HZ.out.row 0 (by simp)).1
      have hrow := (HZ.out.later HB1.out).row.kept (Below.heap_setCell w1 ⟨w.heap.size + 1, 0, none⟩ (.slice (some ⟨G, 0, none⟩) 1 1) G (by simp; omega))
      rw [← hw1] at hrow
      have ce : ∀ a v, w1.cell? a = some v → ⟨w.heap.size + 1, 0, none⟩ ≠ a → wr.cell? a = some v := fun a v h hne => by rw [hw1, World.cell?_setCell_other w1 _ _ _ (by simpa using hne)]; exact h
      have p0 := ce _ _ e0 (by simp)
      have p1 := ce _ _ e1 (by simp)
      have p2 := ce _ _ e2 (by simp)
      have p3 := ce _ _ e3 (by simp)
      have p4 := ce _ _ e4 (by simp)
      have p5 := ce _ _ e5 (by simp)
      have r1 := ce _ _ f1 (by simp)
      have r2 := ce _ _ f2 (by simp)
      have r0 : wr.cell? ⟨w.heap.size + 1, 0, none⟩ = some (.slice (some ⟨G, 0, none⟩) 1 1) := by rw [hw1]; exact World.cell?_setCell_same w1 _ _ f0
      have HBW : Hid (Below w.heap.size w wr) := by rw [hw1]; exact HB1.out.setCell (p := ⟨w.heap.size + 1, 0, none⟩) (by simp) _
      have hsz : wr.heap.size = w1.heap.size := by rw [hw1]; simp
      have HT := hide (operateNot_any 1 1 0 0 0 [2] (some ⟨G, 0, none⟩) 1 none none 0 0 0 0 (some ⟨P, 0, none⟩) two_small (by simp) wr (Go.Proofs.YtjhkecnnhddhbaaGreatDoor.irow_ints hrow))
      rw [turn_two] at HT
      clear ce e0 e1 e2 e3 e4 e5 f0 f1 f2 ff hw1 hrow HB1 HI1
      go_wp2_with fail
      refine HT.out.mono ?_
      rintro e w5 ⟨G2, rfl, hG2, hr2, hb5⟩
      have HZ5 := hide (HZ.out.later (bthen HBW.out hb5))
      have s2 := HZ5.out.b2
      obtain ⟨w6, hput, hown6, hg6⟩ := put70 HZ5.out.own (by omega) (x := 2) (by decide) (by decide) G2 0 1 1
      have HR2 := hide hr2
      have HB5 := hide (bthen HBW.out hb5)
      have HG6 := hide hg6
      have HO6 := hide hown6
      clear hr2 hb5 hg6 hown6 p0 p1 p2 p3 p4 p5 r0 r1 r2 HT HZ HBW
      go_wp2
      go_ret
      have hs5 := HB5.out.size
      have hne : ¬ G2 = M := by omega
      refine ⟨G2, rfl, by omega, HR2.out.kept (HG6.out.block G2 (World.block_lt_of_cell? _ _ (HR2.out 0 (by simp)).1) (by simpa using hne)), HO6.out, ?_, ?_⟩
      · exact (HB5.out.mono (by omega)).grown HG6.out (by omega) (fun j hj => by cases hj; omega)
      · intro g h1 h2
        rw [HG6.out.block g (Nat.lt_of_lt_of_le h2 HB5.out.size) (by simpa using h1)]
        exact HB5.out.block g h2
end Go.Proofs.YtjhkecnnhddhbaaGreatDoor.Ev
