/- Models: a node is checked. -/
import Derived.Test.YtagaemlgompggaaGreatDoorMb
import Derived.Test.YtagaemlgompggaaGreatDoorAbM
namespace Go.Proofs.YtagaemlgompggaaGreatDoor.Ev
open Go.RowKit
set_option maxRecDepth 100000

def nodeE (ns : List Nd) (i : Nat) (x : Nd) : Int :=
  if btw x.kind 1 23 = false then 7 else if btw x.width 1 8 = false then 3 else if 4 ≤ x.kind then opE ns i x else leafE x

theorem takes_op {k : Int} (h : 4 ≤ k) (h2 : k ≤ 23) : takes k = 1 ∨ takes k = 2 ∨ takes k = 3 := by
  unfold takes
  (repeat' split) <;> omega

theorem checkOp_any (p : Option Addr) (cap : Nat) (ns : List Nd) (hl : ns.length ≤ 80) (i : Nat) (hi : i < ns.length) (w : World) (hN : NodesAt w p ns) (h : 4 ≤ ns[i].kind) (h2 : ns[i].kind ≤ 23) :
    Calls Tryz.prog 95 #[.slice p ns.length cap, .int .i64 i] w fun e w' => e = .returned (.int .i64 (opE ns i ns[i])) ∧ Below w.heap.size w w' := by
  rcases takes_op h h2 with ht | ht | ht
  · exact checkOp_1 p cap ns hl i hi w hN ht
  · exact checkOp_2 p cap ns hl i hi w hN ht
  · exact checkOp_3 p cap ns hl i hi w hN ht

theorem NodesAt.later {w w1 : World} {p : Option Addr} {ns : List Nd} (h : NodesAt w p ns) (hb : Below w.heap.size w w1) : NodesAt w1 p ns := by
  intro h0
  obtain ⟨b, off, hp, hc⟩ := h h0
  refine ⟨b, off, hp, fun i hi => ?_⟩
  obtain ⟨c0, c1, c2, c3, c4, c5⟩ := hc i hi
  exact ⟨cell_later hb c0, cell_later hb c1, cell_later hb c2, cell_later hb c3, cell_later hb c4, cell_later hb c5⟩

set_option maxRecDepth 100000 in
set_option maxHeartbeats 1000000 in
theorem checkNode_any (p : Option Addr) (cap : Nat) (ns : List Nd) (hl : ns.length ≤ 80) (i : Nat) (hi : i < ns.length) (w : World) (hN : NodesAt w p ns) :
    Calls Tryz.prog 76 #[.slice p ns.length cap, .int .i64 i] w fun e w' => e = .returned (.int .i64 (nodeE ns i ns[i])) ∧ Below w.heap.size w w' := by
  have hN2 := hN
  obtain ⟨b, off, rfl, hc⟩ := hN (by omega)
  obtain ⟨c0, c1, c2, c3, c4, c5⟩ := hc i hi
  have hi2 : (i : Int) < (ns.length : Int) := by omega
  have HO : Hid (∀ w1, Below w.heap.size w w1 → 4 ≤ ns[i].kind → ns[i].kind ≤ 23 → Calls Tryz.prog 95 #[.slice (some ⟨b, off, none⟩) ns.length cap, .int .i64 i] w1 fun e w' => e = .returned (.int .i64 (opE ns i ns[i])) ∧ Below w1.heap.size w1 w') :=
    fun w1 hb h h2 => checkOp_any _ cap ns hl i hi w1 (hN2.later hb) h h2
  clear hN hN2 hc
  generalize ns[i] = nd at *
  obtain ⟨k, v, x, y, z, n⟩ := nd
  simp only at *
  by_cases hk : btw k 1 23 = true
  · by_cases hv : btw v 1 8 = true
    · have hk2 := btw_true.1 hk
      have hv2 := btw_true.1 hv
      by_cases h4 : 4 ≤ k
      · have ho : btw k 4 23 = true := btw_true.2 (by omega)
        have HE : Hid (nodeE ns i ⟨k, v, x, y, z, n⟩ = opE ns i ⟨k, v, x, y, z, n⟩) := by
          unfold nodeE; rw [if_neg (by simp [hk]), if_neg (by simp [hv]), if_pos h4]; rfl
        generalize nodeE ns i ⟨k, v, x, y, z, n⟩ = R at *
        generalize opE ns i ⟨k, v, x, y, z, n⟩ = R2 at *
        go_enter Tryz.func76, Tryz.ntmps76
        go_wp2_with (first | (go_at_call 93; refine (isKind_any _ _).mono ?_; rintro e w' ⟨rfl, rfl⟩) | (go_at_call 94; refine (isWidth_any _ _).mono ?_; rintro e w' ⟨rfl, rfl⟩) | (go_at_call 82; refine (isOp_any _ _).mono ?_; rintro e w' ⟨rfl, rfl⟩))
        refine (HO.out _ (bal (Below.refl _ _) _) h4 hk2.2).mono ?_
        rintro e w1 ⟨rfl, hb1⟩
        go_wp2
        go_ret
        exact ⟨ret_int HE.out.symm, bthen (bal (Below.refl _ _) _) hb1⟩
      · have ho : btw k 4 23 = false := btw_false.2 (by omega)
        have HE : Hid (nodeE ns i ⟨k, v, x, y, z, n⟩ = leafE ⟨k, v, x, y, z, n⟩) := by
          unfold nodeE; rw [if_neg (by simp [hk]), if_neg (by simp [hv]), if_neg h4]; rfl
        generalize nodeE ns i ⟨k, v, x, y, z, n⟩ = R at *
        go_enter Tryz.func76, Tryz.ntmps76
        go_wp2_with (first | (go_at_call 93; refine (isKind_any _ _).mono ?_; rintro e w' ⟨rfl, rfl⟩) | (go_at_call 94; refine (isWidth_any _ _).mono ?_; rintro e w' ⟨rfl, rfl⟩) | (go_at_call 82; refine (isOp_any _ _).mono ?_; rintro e w' ⟨rfl, rfl⟩))
        refine (leaf_any _ _ _ _ _ _ (by omega) _).mono ?_
        rintro e w1 ⟨rfl, hb1⟩
        go_wp2
        go_ret
        exact ⟨ret_int HE.out.symm, bthen (bal (Below.refl _ _) _) hb1⟩
    · have hv' : btw v 1 8 = false := by simpa using hv
      have HE : Hid (nodeE ns i ⟨k, v, x, y, z, n⟩ = 3) := by
        unfold nodeE; rw [if_neg (by simp [hk]), if_pos hv']; rfl
      clear hv
      go_enter Tryz.func76, Tryz.ntmps76
      go_wp2_with (first | (go_at_call 93; refine (isKind_any _ _).mono ?_; rintro e w' ⟨rfl, rfl⟩) | (go_at_call 94; refine (isWidth_any _ _).mono ?_; rintro e w' ⟨rfl, rfl⟩))
      go_ret
      exact ⟨ret_int HE.out.symm, bal (Below.refl _ _) _⟩
  · have hk' : btw k 1 23 = false := by simpa using hk
    have HE : Hid (nodeE ns i ⟨k, v, x, y, z, n⟩ = 7) := by
      unfold nodeE; rw [if_pos hk']; rfl
    clear hk
    go_enter Tryz.func76, Tryz.ntmps76
    go_wp2_with (go_at_call 93; refine (isKind_any _ _).mono ?_; rintro e w' ⟨rfl, rfl⟩)
    go_ret
    exact ⟨ret_int HE.out.symm, bal (Below.refl _ _) _⟩

end Go.Proofs.YtagaemlgompggaaGreatDoor.Ev
