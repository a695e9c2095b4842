/- What must be in any case: the model that turns round. -/
import Derived.Test.YtfobcnhibhbbaaaZa
import Derived.Test.YtfobcnhibhbbaaaEjM
namespace Go.Proofs.Ytfobcnhibhbbaaa.Xp
open Go.RowKit Go.Maps
set_option maxRecDepth 100000

theorem tg_fd : fdK tgN [(1, 0)] [(1, 2)] [1] [] = ⟨2, 1, true, 1⟩ := by rfl
theorem tg_fi : fdI tgN [(1, 0)] [(1, 2)] [1] [] 0 = ⟨2, 1, true, 1⟩ := by unfold fdI; rw [if_pos rfl, tg_fd]
set_option maxHeartbeats 2000000 in
theorem exploreBegun_any (w : World) : Calls Try.prog 8 #[] w fun e w' => e = .returned (.bool true) ∧ Below w.heap.size w w' := by
  have HTG := hide (toggle_any w)
  have HEX := hide (fun (B0 B1 B2 B3 : Nat) (W : World) (h : MdAt ⟨some ⟨B0, 0, none⟩, 3, some ⟨B1, 0, none⟩, 1, 1, some ⟨B2, 0, none⟩, 1, 1, some ⟨B3, 0, none⟩, 1, 1, none, 0, 0⟩ tgN [(1, 0)] [(1, 2)] [1] [] W) => explore_any (some ⟨B0, 0, none⟩) (some ⟨B1, 0, none⟩) (some ⟨B2, 0, none⟩) (some ⟨B3, 0, none⟩) none 3 1 1 1 0 tgN [(1, 0)] [(1, 2)] [1] [] (by decide) (by decide) (by decide) (by decide) (by decide) W h)
  rw [tg_check, tg_fi] at HEX
  go_enter Try.func8, Try.ntmps8
  go_wp2_with fail
  refine HTG.out.mono ?_
  rintro e w1 ⟨B0, B1, B2, B3, rfl, hN, hI, hX, hB, hb1⟩
  have HE1 := hide (HEX.out B0 B1 B2 B3 w1 ⟨hN, hI, hX, hB, fun h => by simp at h⟩)
  have HB1 := hide hb1
  clear hN hI hX hB hb1 HTG HEX
  go_wp2_with fail
  refine (show Calls Try.prog 4 #[Mv.val ⟨some ⟨B0, 0, none⟩, 3, some ⟨B1, 0, none⟩, 1, 1, some ⟨B2, 0, none⟩, 1, 1, some ⟨B3, 0, none⟩, 1, 1, none, 0, 0⟩ 3] w1 _ from HE1.out).mono ?_
  rintro e w2 ⟨rfl, hb2⟩
  have HB2 := hide (bthen HB1.out hb2)
  clear hb2 HE1 HB1
  unfold fdV
  simp only
  go_wp2
  go_ret
  exact ⟨rfl, bal HB2.out _⟩
end Go.Proofs.Ytfobcnhibhbbaaa.Xp
