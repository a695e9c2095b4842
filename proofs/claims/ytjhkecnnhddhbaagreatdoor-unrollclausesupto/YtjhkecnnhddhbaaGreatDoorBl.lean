/- The blaster of the toggle: start, the walk. -/
import Derived.Test.YtjhkecnnhddhbaaGreatDoorBk
namespace Go.Proofs.YtjhkecnnhddhbaaGreatDoor.Ev
open Go.RowKit Go.Maps
set_option maxRecDepth 100000
set_option maxRecDepth 100000

theorem run_makeMap70 (w : World) : (Instr.makeMap 110 none).run Tryz.prog w = .ok (.map (some w.heap.size)) (w.alloc (.map #[] 0)) := by
  simp [Instr.makeMap]

theorem st_zero (w : World) (B0 B1 B2 B3 : Nat) : StA w ((((w.alloc (.cells (Mv.cells (tgM B0 B1 B2 B3) 3) 65)).alloc (.map #[] 0)).alloc (.cells #[.pointer none, .slice (some ⟨B0, 0, none⟩) 3 3, .map (some (w.heap.size + 1))] 112)).alloc (.cells #[.int .i64 0] 3)) B0 := by
  refine ⟨⟨by simp [go_sem], by simp [go_sem], by simp [go_sem], by simp [go_sem], by simp [go_sem], by simp [go_sem], bal (bal (bal (bal (Below.refl _ _) _) _) _) _, by simp⟩, ?_, by simp [go_sem]⟩
  have h := ((World.ownsMap_made (w.alloc (.cells (Mv.cells (tgM B0 B1 B2 B3) 3) 65)) Tryz.prog 3 slR).alloc (.cells #[.pointer none, .slice (some ⟨B0, 0, none⟩) 3 3, .map (some (w.heap.size + 1))] 112)).alloc (.cells #[.int .i64 0] 3)
  simpa using h

theorem index0 (w : World) : (Instr.index 75 (.agg #[.int .i64 2, .int .i64 3]) (.int .i64 0)).run Tryz.prog w = .ok (.int .i64 2) w := by kernel_rfl
theorem index1 (w : World) : (Instr.index 75 (.agg #[.int .i64 2, .int .i64 3]) (.int .i64 1)).run Tryz.prog w = .ok (.int .i64 3) w := by kernel_rfl

/-- The blaster's memory: its nodes, its map, in which the state's bits are. -/
structure Bz (w : World) (P M B0 G n : Nat) (D : DataW Unit) : Prop where
  b1 : w.cell? ⟨P, 1, none⟩ = some (.slice (some ⟨B0, 0, none⟩) 3 3)
  b2 : w.cell? ⟨P, 2, none⟩ = some (.map (some M))
  own : w.ownsMap Tryz.prog 3 slR M n D
  has1 : Maps.has D (.int .i64 1) = true
  at1 : D.atKey (.int .i64 1) .nil = slD G 0 1 1
  row : Go.Proofs.YtjhkecnnhddhbaaGreatDoor.IRow w G [2]
  ltM : M < w.heap.size
  nePM : P ≠ M
  neGM : G ≠ M
/-- The graph that it makes. -/
structure Gz (w : World) (P M : Nat) : Prop where
  g : ∃ X pv cv, w.cell? ⟨P, 0, none⟩ = some (.pointer (some ⟨X, 0, none⟩)) ∧ w.cell? ⟨X, 0, none⟩ = some (.int .i64 1) ∧ w.cell? ⟨X, 1, none⟩ = some (.slice pv 0 cv) ∧ P ≠ M ∧ X ≠ M

theorem map_nil : IsMap (DataW.map [] : DataW Unit) := ⟨[], rfl⟩
theorem no_two (d : DataW Unit) : Maps.has ((DataW.map [] : DataW Unit).put (.int .i64 1) d) (.int .i64 2) = false := by
  rw [has_put_other (by simp)]; rfl
theorem nil_two (d : DataW Unit) : ((DataW.map [] : DataW Unit).put (.int .i64 1) d).atKey (.int .i64 2) .nil = .nil := by
  rw [atKey_put_other (by simp)]; rfl
theorem bz_first {w w4 : World} {B0 G X : Nat} (hs : StB w w4 B0 G) : Bz (w4.setCell ⟨w.heap.size + 2, 0, none⟩ (.pointer (some ⟨X, 0, none⟩))) (w.heap.size + 2) (w.heap.size + 1) B0 G 1 ((DataW.map []).put (.int .i64 1) (slD G 0 1 1)) := by
  have := hs.c.sz
  have := hs.g
  refine ⟨?_, ?_, map_block hs.own (Below.heap_setCell w4 _ _ _ (by simp)), ?_, ?_, hs.row.kept (Below.heap_setCell w4 _ _ _ (by simp; omega)), by simp; omega, by omega, by omega⟩
  · rw [World.cell?_setCell_other w4 _ _ _ (by simp)]; exact hs.c.b1
  · rw [World.cell?_setCell_other w4 _ _ _ (by simp)]; exact hs.c.b2
  · exact has_put_same map_nil (k := .int .i64 1) trivial _
  · exact atKey_put_same map_nil (k := .int .i64 1) trivial _ _
theorem StB.later {w wr w1 : World} {B0 G : Nat} (h : StB w wr B0 G) (hb : Below wr.heap.size wr w1) : StB w w1 B0 G := ⟨h.c.later hb, map_block h.own (hb.block _ (by have := h.c.sz; omega)), cell_later hb h.cnt, h.row.kept (hb.block _ (World.block_lt_of_cell? _ _ (h.row 0 (by simp)).1)), h.g⟩

/-- Ahead of the Ins, or behind them. -/
def StK (w wr : World) (B0 k : Nat) : Prop := (k ≤ 1 ∧ StA w wr B0) ∨ (k = 2 ∧ ∃ G, StB w wr B0 G)

set_option maxHeartbeats 8000000 in
theorem startT_any (B0 B1 B2 B3 : Nat) (w : World) (hT : TgAt w B0 B1 B2 B3) :
    Calls Tryz.prog 75 #[Mv.val (tgM B0 B1 B2 B3) 3] w fun e w' => ∃ P M G D, e = .returned (.pointer (some ⟨P, 0, none⟩)) ∧ Bz w' P M B0 G 1 D ∧ Maps.has D (.int .i64 2) = false ∧ D.atKey (.int .i64 2) .nil = .nil ∧ Gz w' P M ∧ w.heap.size ≤ M ∧ Below w.heap.size w w' := by
  have HT := hide hT
  have hmm := run_makeMap70
  have HZ := hide (st_zero w B0 B1 B2 B3)
  have HOK2 := hide (fun (w' : World) (hb : Below w.heap.size w w') => ofKind_any (some ⟨B0, 0, none⟩) 3 tgN (by decide) 2 w' (hT.n.later hb))
  have HOK3 := hide (fun (w' : World) (hb : Below w.heap.size w w') => ofKind_any (some ⟨B0, 0, none⟩) 3 tgN (by decide) 3 w' (hT.n.later hb))
  rw [tg_sel2] at HOK2
  rw [tg_sel] at HOK3
  clear hT
  go_enter Tryz.func75, Tryz.ntmps75
  go_wp2
  go_loopw [17] (fun i wr => ∃ k : Nat, k ≤ 2 ∧ i = .int .i64 k ∧ Hid (StK w wr B0 k)) (fun i _ => 2 - (intOf i).toNat)
  case atStart => exact ⟨0, Nat.zero_le _, rfl, Or.inl ⟨Nat.zero_le _, HZ.out⟩⟩
  case round =>
    clear HZ
    obtain ⟨k, hk, rfl, HS⟩ := hrel
    rcases HS.out with ⟨hk1, hA⟩ | ⟨rfl, G, hBB⟩
    · have HA := hide hA
      have q0 := hA.c.q0
      have HB0 := hide hA.c.bel
      clear hA
      by_cases hk0 : k = 0
      · subst hk0
        have hix := index0
        go_wp2_with fail
        refine (HOK2.out _ HB0.out).mono ?_
        rintro e w1 ⟨p1, c1, rfl, _, hb1⟩
        have HA1 := hide (HA.out.later hb1)
        clear hb1 q0 HA
        go_wp2
        go_loopw [25] (fun i wr => i = .int .i64 0 ∧ wr = w1) (fun _ _ => 0)
        case atStart => exact ⟨rfl, rfl⟩
        case round =>
          obtain ⟨rfl, rfl⟩ := hrel
          go_wp2
          go_roundw
          case rel => exact ⟨1, by omega, by go_num, Or.inl ⟨Nat.le_refl _, HA1.out⟩⟩
          case measure => simp [intOf]
      · obtain rfl : k = 1 := by omega
        have hix := index1
        go_wp2_with fail
        refine (HOK3.out _ HB0.out).mono ?_
        rintro e w1 ⟨p1, c1, rfl, hI1, hb1⟩
        have HA1 := hide (HA.out.later hb1)
        have HI1 := hide hI1
        clear hb1 q0 HA hI1
        go_wp2
        go_loopw [25] (fun i wr => ∃ j : Nat, j ≤ 1 ∧ i = .int .i64 j ∧ ((j = 0 ∧ wr = w1) ∨ (j = 1 ∧ Hid (∃ G, StB w wr B0 G)))) (fun i _ => 1 - (intOf i).toNat)
        case atStart => exact ⟨0, by omega, rfl, Or.inl ⟨rfl, rfl⟩⟩
        case round =>
          obtain ⟨j, hj, rfl, ⟨rfl, hw1⟩ | ⟨rfl, HBB⟩⟩ := hrel
          · subst hw1
            obtain ⟨b, off, rfl, hc⟩ := HI1.out (by simp)
            have hc0 : wr.cell? ⟨b, off, none⟩ = some (.int .i64 1) := by simpa using hc 0 (by simp)
            obtain ⟨nb, no, hne, hnc⟩ := (HT.out.n.later HA1.out.c.bel) (by decide)
            cases hne
            have n1 := (hnc 1 (by decide)).2.1
            simp [tgN] at n1
            have j2 : wr.cell? ⟨w.heap.size + 1 + 1, 2, none⟩ = some (.map (some (w.heap.size + 1))) := HA1.out.c.b2
            have j0 := HA1.out.c.q0
            have hBne : B0 < w.heap.size := by
              obtain ⟨nb, no, hne, hnc⟩ := HT.out.n (by decide)
              cases hne
              exact World.block_lt_of_cell? _ _ (hnc 1 (by decide)).2.1
            have HNI := hide (nextIn_any (w.heap.size + 3) wr.drew w.heap.size (by omega) (by have := HA1.out.c.sz; simp; omega) HA1.out.cnt HA1.out.c.i)
            clear hc hnc
            go_wp2
            go_region_held3 (fun w' => w'.cell? ⟨w.heap.size + 1 + 1, 2, none⟩ = some (.map (some (w.heap.size + 1))) ∧ w'.cell? ⟨w.heap.size, 0, none⟩ = some (.slice (some ⟨B0, 0, none⟩) 3 3) ∧ w'.cell? ⟨B0, 7, none⟩ = some (.int .i64 1))
              (first
                | exact ⟨hg3.cell m2 (by simp), hg3.cell m0 (by simp), hg3.cell m7 (by simp; omega)⟩
                | exact ⟨m2, m0, m7⟩
                | go_keep)
              ((go_at_call 93; refine HNI.out.mono ?_; rintro e w2 ⟨G, rfl, hG, hr, hcn, hfn, hb2, hk2⟩
                have m2 : w2.cell? ⟨w.heap.size + 1 + 1, 2, none⟩ = some (.map (some (w.heap.size + 1))) := kept_cell j2 hk2 (by simp)
                have m0 : w2.cell? ⟨w.heap.size, 0, none⟩ = some (.slice (some ⟨B0, 0, none⟩) 3 3) := kept_cell j0 hk2 (by simp)
                have m7 : w2.cell? ⟨B0, 7, none⟩ = some (.int .i64 1) := kept_cell n1 hk2 (by simp; omega)
                obtain ⟨w3, hput, hown3, hg3⟩ := put70 (map_block HA1.out.own (hk2 (w.heap.size + 1) (by omega) (by have := HA1.out.c.sz; simp; omega))) (by omega) (x := 1) (by decide) (by decide) G 0 1 1))
            rename_i hHeld
            have HSB := hide (st_made HA1.out (Nat.le_trans (by simp) hb2.size) (by simpa using hG) hr hcn hfn ((Below.refl _ wr).drew.trans hb2) hk2 hown3 hg3)
            clear hHeld hr hcn hfn hb2 hk2 hown3 hg3 hput m2 m0 m7 HNI hG j2 j0 n1 hc0
            go_wp2
            go_roundw
            case rel => exact ⟨1, by omega, by go_num, Or.inr ⟨rfl, G, HSB.out⟩⟩
            case measure => simp [intOf]
          · go_wp2
            go_roundw
            case rel => exact ⟨2, by omega, by go_num, Or.inr ⟨rfl, HBB.out⟩⟩
            case measure => simp [intOf]
    · have x0 := hBB.cnt
      have HBB := hide hBB
      clear hBB
      have hcnt : wr.cell? ⟨w.heap.size + 1 + 1 + 1, 0, none⟩ = some (.int .i64 1) := x0
      have HF := hide (fun w1 => Go.Proofs.YtjhkecnnhddhbaaGreatDoor.from_any 1 none 0 [] (fun i h => by simp at h) (by simp) (by decide) (by decide) w1 (fun h => by simp at h))
      go_wp2_with fail
      refine (HF.out _).mono ?_
      rintro e w4 ⟨X, Bx, vx, Dx, rfl, hmk, _, _, hb4⟩
      have HS4 := hide (HBB.out.later hb4)
      have g0 : w4.cell? ⟨w.heap.size + 1 + 1, 0, none⟩ = some (.pointer none) := HS4.out.c.b0
      have g1 : w4.frozen? ⟨w.heap.size + 1 + 1, 0, none⟩ = false := HS4.out.c.bf
      have HMK := hide hmk
      have HB4 := hide hb4
      clear hb4 hmk x0 hcnt HF
      go_wp2
      go_ret
      obtain ⟨pv, cv, rfl, _⟩ := Go.Proofs.YtjhkecnnhddhbaaGreatDoor.owns_pairs HMK.out.row
      have hX := HMK.out.hM
      have hs := HBB.out.c.sz
      have hp := World.cell?_setCell_same w4 ⟨w.heap.size + 2, 0, none⟩ (.pointer (some ⟨X, 0, none⟩)) HS4.out.c.b0
      refine ⟨w.heap.size + 2, w.heap.size + 1, G, _, rfl, bz_first HS4.out, no_two _, nil_two _, ⟨X, pv, cv, hp, ?_, ?_, by omega, by omega⟩, by omega, (bthen HBB.out.c.bel HB4.out).setCell (p := ⟨w.heap.size + 2, 0, none⟩) (by simp) _⟩
      · rw [World.cell?_setCell_other w4 _ _ _ (by simp)]; exact HMK.out.c0
      · rw [World.cell?_setCell_other w4 _ _ _ (by simp)]; exact HMK.out.c1
end Go.Proofs.YtjhkecnnhddhbaaGreatDoor.Ev
