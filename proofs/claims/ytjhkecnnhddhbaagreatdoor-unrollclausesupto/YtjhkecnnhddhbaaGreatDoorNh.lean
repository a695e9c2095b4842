/- The toggle's words, by bits. -/
import Derived.Test.YtjhkecnnhddhbaaGreatDoorBp
namespace Go.Proofs.YtjhkecnnhddhbaaGreatDoor.Ev
open Go.RowKit Go.Maps
set_option maxRecDepth 100000
set_option autoImplicit false

set_option maxHeartbeats 4000000 in
theorem words2_tg (B0 : Nat) (q : Option Addr) (n c : Nat) (w : World) (hN : NodesAt w (some ⟨B0, 0, none⟩) tgN) :
    Calls Tryz.prog 82 #[.slice (some ⟨B0, 0, none⟩) 3 3, .int .i64 2, .slice q n c] w fun e w' => e = .returned (.slice none 0 0) ∧ Below w.heap.size w w' := by
  have HOK := hide (ofKind_any (some ⟨B0, 0, none⟩) 3 tgN (by decide) 2 w hN)
  rw [tg_sel2] at HOK
  clear hN
  go_enter Tryz.func82, Tryz.ntmps82
  go_wp2_with fail
  refine HOK.out.mono ?_
  rintro e w1 ⟨p, cap, rfl, _, hb⟩
  have HB := hide hb
  clear hb HOK
  go_wp2
  go_loopw [7, 16] (fun s i wr => s = .slice none 0 0 ∧ i = .int .i64 0 ∧ wr = w1) (fun _ _ _ => 0)
  case atStart => exact ⟨rfl, rfl, rfl⟩
  case round =>
    obtain ⟨rfl, rfl, hw⟩ := hrel
    obtain rfl : w1 = wr := hw.symm
    clear hw
    go_wp2
    go_ret
    exact ⟨rfl, HB.out⟩

set_option maxHeartbeats 8000000 in
theorem words3_tg (B0 : Nat) (q : Option Addr) (n c : Nat) (hn : 1 ≤ n) (hn2 : n ≤ 1000) (hc : n ≤ c) (w : World) (hN : NodesAt w (some ⟨B0, 0, none⟩) tgN) (bs : List Bool) (hb0 : Go.Proofs.YtjhkecnnhddhbaaGreatDoor.BoolsAt w q (false :: bs)) :
    Calls Tryz.prog 82 #[.slice (some ⟨B0, 0, none⟩) 3 3, .int .i64 3, .slice q n c] w fun e w' => (∃ p cap, e = .returned (.slice p 1 cap)) ∧ Below w.heap.size w w' := by
  have HOK := hide (ofKind_any (some ⟨B0, 0, none⟩) 3 tgN (by decide) 3 w hN)
  rw [tg_sel] at HOK
  have HN := hide hN
  obtain ⟨qb, qo, rfl, hqc⟩ := hb0 (by simp)
  have hq0 := hqc 0 (by simp)
  simp only [List.getElem_cons_zero, Nat.add_zero] at hq0
  clear hN hb0 hqc
  go_enter Tryz.func82, Tryz.ntmps82
  go_wp2_with fail
  refine HOK.out.mono ?_
  rintro e w1 ⟨p, cap, rfl, hI, hb⟩
  have HB := hide hb
  have q1 := cell_later hb hq0
  obtain ⟨nb, no, hne, hnc⟩ := (HN.out.later hb) (by decide)
  cases hne
  have n1 := (hnc 1 (by decide)).2.1
  simp [tgN] at n1
  obtain ⟨sb, so, rfl, hsc⟩ := hI (by simp)
  have s0 := hsc 0 (by simp)
  simp only [List.getElem_cons_zero, Nat.add_zero] at s0
  clear hb HOK hnc hI hsc hq0 HN
  go_wp2
  go_loopw [2, 7, 16] (fun b s i wr => ∃ k : Nat, i = .int .i64 k ∧ ((k = 0 ∧ b = .slice (some ⟨qb, qo, none⟩) n c ∧ s = .slice none 0 0 ∧ wr = w1) ∨ (k = 1 ∧ Hid ((∃ p cap, s = .slice p 1 cap) ∧ Below w1.heap.size w1 wr)))) (fun _ _ i _ => 1 - (intOf i).toNat)
  case atStart => exact ⟨0, rfl, Or.inl ⟨rfl, rfl, rfl, rfl⟩⟩
  case round =>
    obtain ⟨k, rfl, hcase⟩ := hrel
    rcases hcase with ⟨rfl, rfl, rfl, hw⟩ | ⟨rfl, HD⟩
    · obtain rfl : w1 = wr := hw.symm
      clear hw
      go_wp2
      go_loopw [10, 25] (fun x i wr => ∃ k : Nat, k ≤ 1 ∧ i = .int .i64 k ∧ x = .int .i64 0 ∧ wr = w1) (fun _ i _ => 1 - (intOf i).toNat)
      case atStart => exact ⟨0, by decide, rfl, rfl, rfl⟩
      case round =>
        obtain ⟨k, hk, rfl, rfl, hw⟩ := hrel
        obtain rfl : w1 = wr := hw.symm
        clear hw
        by_cases hk0 : k = 0
        · subst hk0
          have hl : (0 : Int) < (n : Int) := by omega
          go_wp2
          go_roundw
          case rel => exact ⟨1, by decide, by go_num, rfl, trivial⟩
          case measure => simp [intOf]
        · obtain rfl : k = 1 := by omega
          clear hk0
          have hl1 : (1 : Int) ≤ (n : Int) := by omega
          have hlc : (n : Int) ≤ (c : Int) := by omega
          go_wp2_with (at_builtin; refine Go.Proofs.YtjhkecnnhddhbaaGreatDoor.wpList_append_ints rfl _ _ rfl w1.heap.size _ [] [0] rfl (World.ownsRow_nil _ _ _ _) (some ⟨w1.heap.size, 0, none⟩) 1 rfl (Go.Proofs.YtjhkecnnhddhbaaGreatDoor.ints_one 0) (fun h => by cases h) (by simp) (by simp) ?_)
          intro v9 w9 ho9 hg9
          have hb9 : Below w1.heap.size w1 w9 := (bal (Below.refl _ w1) _).grown hg9 (by simp) (fun j hj => by cases hj)
          obtain ⟨p9, c9, rfl, _⟩ := Go.Proofs.YtjhkecnnhddhbaaGreatDoor.owns_ints (show w9.ownsRow w1.heap.size 3 1 v9 [(0 : Int)].length ([(0 : Int)].map (Value.int .i64)) from ho9)
          have n9 := cell_later hb9 n1
          have HD9 : Hid ((∃ p cap, Value.slice p9 [(0 : Int)].length c9 = .slice p 1 cap) ∧ Below w1.heap.size w1 w9) := ⟨⟨p9, c9, rfl⟩, hb9⟩
          clear ho9 hg9 hb9
          go_wp2
          exact ⟨⟨1, rfl, Or.inr ⟨rfl, HD9⟩⟩, by simp [intOf]⟩
    · obtain ⟨⟨pz, cz, rfl⟩, hbz⟩ := HD.out
      have HBZ := hide (bthen HB.out hbz)
      clear HD hbz
      go_wp2
      go_ret
      exact ⟨⟨pz, cz, rfl⟩, HBZ.out⟩
end Go.Proofs.YtjhkecnnhddhbaaGreatDoor.Ev
