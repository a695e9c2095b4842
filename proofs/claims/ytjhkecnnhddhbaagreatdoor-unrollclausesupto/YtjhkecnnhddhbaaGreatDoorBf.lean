/- The node that each state is next. -/
import Derived.Test.YtjhkecnnhddhbaaGreatDoorBd
import Derived.Test.YtjhkecnnhddhbaaGreatDoorBe
import Derived.Test.YtjhkecnnhddhbaaGreatDoorMe
namespace Go.Proofs.YtjhkecnnhddhbaaGreatDoor.Ev
open Go.RowKit Go.Maps
set_option maxRecDepth 100000
set_option maxRecDepth 100000

theorem sel_in {f : Nat → Bool} {n k : Nat} (h : k < (sel f n).length) : 0 ≤ (sel f n)[k] ∧ (sel f n)[k] < n := sel_bd h

/-- What is next of the first of them. -/
def nextsL (xs : List (Int × Int)) (l : List Int) (k : Nat) : List Int := (l.take k).map (lastV xs)
theorem nextsL_succ (xs : List (Int × Int)) (l : List Int) (k : Nat) (h : k < l.length) : nextsL xs l (k + 1) = nextsL xs l k ++ [lastV xs l[k]] := by
  unfold nextsL
  rw [List.take_succ_eq_append_getElem h, List.map_append]
  rfl
theorem nextsL_len (xs : List (Int × Int)) (l : List Int) (k : Nat) (h : k ≤ l.length) : (nextsL xs l k).length = k := by simp [nextsL]; omega

set_option maxHeartbeats 4000000 in
theorem nextOnes_any (a0 a1 a2 a3 a4 : Option Addr) (c0 c1 c2 c3 c4 l1 l3 l4 : Nat) (ns : List Nd) (xs : List (Int × Int)) (hl : ns.length ≤ 80) (hlx : xs.length ≤ 8796093022208) (hs : ∀ (i : Nat) (h : i < xs.length), 0 ≤ xs[i].1 ∧ xs[i].1 < 80 ∧ 0 ≤ xs[i].2 ∧ xs[i].2 < 80) (w : World) (hN : NodesAt w a0 ns) (hX : PairsAt w a2 xs) :
    Calls Tryz.prog 78 #[Mv.val ⟨a0, c0, a1, l1, c1, a2, xs.length, c2, a3, l3, c3, a4, l4, c4⟩ ns.length] w fun e w' => ∃ p cap, e = .returned (.slice p ((sel (isK ns 3) ns.length).map (lastV xs)).length cap) ∧ IntsAt w' p ((sel (isK ns 3) ns.length).map (lastV xs)) ∧ Below w.heap.size w w' := by
  have hB0 : Below w.heap.size w (w.alloc (.cells (Mv.cells ⟨a0, c0, a1, l1, c1, a2, xs.length, c2, a3, l3, c3, a4, l4, c4⟩ ns.length) 65)) := bal (Below.refl _ _) _
  have HP := hide (partners_any a2 c2 xs hlx hs _ (hX.later hB0))
  have HN := hide hN
  have HSL := hide (sel_len (isK ns 3) ns.length)
  have HBD := hide (fun k (h : k < (sel (isK ns 3) ns.length).length) => sel_in h)
  have HOK := hide (fun (w' : World) (hb : Below w.heap.size w w') => ofKind_any a0 c0 ns (by omega) 3 w' (hN.later hb))
  generalize sel (isK ns 3) ns.length = l at *
  have hll := HSL.out
  generalize hR : l.map (lastV xs) = R at *
  have HRQ := hide hR
  clear hN hX hs HSL hR
  go_enter Tryz.func78, Tryz.ntmps78
  go_wp2_with fail
  refine HP.out.mono ?_
  rintro e w1 ⟨M, D, rfl, _, hown, hD, hb1⟩
  have q0 := cell_later hb1 (a := ⟨w.heap.size, 0, none⟩) (v := .slice a0 ns.length c0) (by simp [go_sem])
  have HB1 := hide (bthen hB0 hb1)
  have HD := hide hD
  have HO := hide hown
  clear hb1 hB0 hown hD
  go_wp2_with fail
  refine (HOK.out _ HB1.out).mono ?_
  rintro e w2 ⟨p2, cap2, rfl, hI2, hb2⟩
  have HO2 := hide (Go.Proofs.YtjhkecnnhddhbaaGreatDoor.map_below HO.out hb2)
  have HB2 := hide (bthen HB1.out hb2)
  have HI2 := hide hI2
  clear hb2 hI2 HO HB1 q0
  clear HP HN
  go_wp2
  go_loopw [4, 14] (fun v i wr => ∃ k : Nat, k ≤ l.length ∧ i = .int .i64 k ∧ wr.ownsRow w2.heap.size 3 1 v (nextsL xs l k).length ((nextsL xs l k).map (Value.int .i64)) ∧ Below w2.heap.size w2 wr) (fun _ i _ => l.length - (intOf i).toNat)
  case atStart => exact ⟨0, Nat.zero_le _, rfl, World.ownsRow_nil _ _ _ _, Below.refl _ _⟩
  case round =>
    obtain ⟨k, hk, rfl, hown, hbw⟩ := hrel
    have hszw := hbw.size
    by_cases hlt : k < l.length
    · obtain ⟨b, off, rfl, hc⟩ := (HI2.out.later hbw) (by omega)
      have hck := hc k hlt
      have hki : (k : Int) < (l.length : Int) := by omega
      have hbd := HBD.out k hlt
      have HS := hide (nextsL_succ xs l k hlt)
      have HLN := hide (nextsL_len xs l k hk)
      have HOM := hide (Go.Proofs.YtjhkecnnhddhbaaGreatDoor.map_below HO2.out hbw)
      have HOW := hide hown
      have HBW := hide hbw
      clear hc hown hbw
      generalize l[k] = x at *
      have hkey : keyOf Tryz.prog 3 (.int .i64 x) = some (.int .i64 x) := keyOf_int_mk Tryz.underlying3 (WalkArith.wf_i64 (by omega))
      have HAT := hide (HD.out.at' x)
      generalize nextsL xs l k = us at *
      generalize lastV xs x = y at *
      go_wp2_with (first
        | (at_lookup; refine wpList_lookup_own_int _ rfl _ _ 127 rfl 3 3 .i64 law3 Tryz.underlying127 Tryz.underlying3 (zero3 _) M xs.length D rfl HOM.out _ _ rfl hkey ?_; intro c hat hwc; have hcy : c = y := lit_inj (hat.symm.trans HAT.out); subst hcy; clear hat hwc)
        | (at_builtin; refine Go.Proofs.YtjhkecnnhddhbaaGreatDoor.wpList_append_ints rfl _ _ rfl w2.heap.size _ us [c] rfl (HOW.out.alloc _) _ _ rfl (Go.Proofs.YtjhkecnnhddhbaaGreatDoor.ints_one c) (fun h => by cases h) (by simp; rw [HLN.out]; omega) (by simp; omega) ?_))
      intro v' w6 hown6 hg6
      have HB6 := hide ((bal HBW.out _).grown hg6 (by simp; omega) (fun j hj => (HOW.out.lt j hj).1))
      have hown7 : w6.ownsRow w2.heap.size 3 1 v' (nextsL xs l (k + 1)).length ((nextsL xs l (k + 1)).map (Value.int .i64)) := by rw [HS.out]; simpa using hown6
      clear hown6 hg6
      go_wp2
      go_roundw
      case rel => exact ⟨k + 1, by omega, by go_num, hown7, HB6.out⟩
      case measure => simp [intOf]; omega
    · obtain rfl : k = l.length := by omega
      have hki : ¬ (l.length : Int) < (l.length : Int) := by omega
      have hall : nextsL xs l l.length = R := by rw [← HRQ.out]; simp [nextsL]
      rw [hall] at hown
      obtain ⟨pv, cv, rfl, hiv, _⟩ := Go.Proofs.YtjhkecnnhddhbaaGreatDoor.owns_ints hown
      have HIV := hide hiv
      have HBW := hide (bthen HB2.out hbw)
      clear hall hown hiv hbw
      go_wp2
      go_ret
      exact ⟨pv, ⟨cv, rfl⟩, HIV.out, HBW.out⟩

end Go.Proofs.YtjhkecnnhddhbaaGreatDoor.Ev
