/- The plain text: a node is checked, whatever it is. -/
import Derived.Test.YtfobcnhibhbbaaaNaM
namespace Go.Proofs.Ytfobcnhibhbbaaa
open Go.RowKit
set_option maxRecDepth 100000

theorem btw_isW (n v : Int) (hv : 0 ≤ v ∧ v ≤ 8) : btw n 0 (wrap64 (two v - 1)) = isW n v := by
  have := two_bd hv
  rw [show wrap64 (two v - 1) = two v - 1 from by unfold wrap64; omega, Bool.eq_iff_iff, btw_true, isW_iff]
  omega


set_option maxRecDepth 100000 in
set_option maxHeartbeats 2000000 in
theorem checkNodeR_bad (p : Option Addr) (cap : Nat) (ns : List Nd) (hl : ns.length ≤ 80) (i : Nat) (hi : i < ns.length) (w : World) (hN : NodesAt w p ns) (hbad : btw ns[i].kind 1 23 = false ∨ btw ns[i].width 1 8 = false) :
    Calls Try.prog 18 #[.slice p ns.length cap, .int .i64 i] w fun e w' => e = .returned (.int .i64 (nodeE ns i ns[i])) ∧ Below w.heap.size w w' := by
  have HNN := hide hN
  obtain ⟨b, off, rfl, hc⟩ := hN (by omega)
  obtain ⟨c0, c1, c2, c3, c4, c5⟩ := hc i hi
  have hi2 : (i : Int) < (ns.length : Int) := by omega
  clear hN hc
  generalize ns[i] = nd at *
  obtain ⟨k, v, x, y, z, n⟩ := nd
  simp only at *
  by_cases hk : btw k 1 23 = true
  · have hv : btw v 1 8 = false := by
      rcases hbad with h | h
      · rw [hk] at h; cases h
      · exact h
    have HE : Hid (nodeE ns i ⟨k, v, x, y, z, n⟩ = 3) := by unfold nodeE; rw [if_neg (by simp [hk]), if_pos hv]; rfl
    clear hbad
    go_enter Try.func18, Try.ntmps18
    go_wp2_with (go_at_call 21; refine (between_any _ _ _ _).mono ?_; rintro e w' ⟨rfl, rfl⟩)
    go_ret
    exact ⟨ret_int HE.out.symm, bal (Below.refl _ _) _⟩
  · have hk' : btw k 1 23 = false := by simpa using hk
    have HE : Hid (nodeE ns i ⟨k, v, x, y, z, n⟩ = 7) := by unfold nodeE; rw [if_pos hk']; rfl
    clear hbad hk
    go_enter Try.func18, Try.ntmps18
    go_wp2_with (go_at_call 21; refine (between_any _ _ _ _).mono ?_; rintro e w' ⟨rfl, rfl⟩)
    go_ret
    exact ⟨ret_int HE.out.symm, bal (Below.refl _ _) _⟩

set_option maxRecDepth 100000 in
set_option maxHeartbeats 2000000 in
theorem checkNodeR_1 (p : Option Addr) (cap : Nat) (ns : List Nd) (hl : ns.length ≤ 80) (i : Nat) (hi : i < ns.length) (w : World) (hN : NodesAt w p ns) (hkd : ns[i].kind = 1) (hv : btw ns[i].width 1 8 = true) :
    Calls Try.prog 18 #[.slice p ns.length cap, .int .i64 i] w fun e w' => e = .returned (.int .i64 (nodeE ns i ns[i])) ∧ Below w.heap.size w w' := by
  have HNN := hide hN
  obtain ⟨b, off, rfl, hc⟩ := hN (by omega)
  obtain ⟨c0, c1, c2, c3, c4, c5⟩ := hc i hi
  have hi2 : (i : Int) < (ns.length : Int) := by omega
  clear hN hc
  generalize ns[i] = nd at *
  obtain ⟨k, v, x, y, z, n⟩ := nd
  simp only at *
  subst hkd
  have hk : btw 1 1 23 = true := by decide
  have hv2 := btw_true.1 hv
  have HE : Hid (nodeE ns i ⟨1, v, x, y, z, n⟩ = leafE ⟨1, v, x, y, z, n⟩) := by
    unfold nodeE; rw [if_neg (by simp [hk]), if_neg (by simp [hv]), if_neg (by simp)]; rfl
  have hbw := btw_isW n v (by omega)
  by_cases hw : isW n v = true
  rotate_left
  · have hw' : isW n v = false := by simpa using hw
    rw [hw'] at hbw
    have HL : Hid (leafE ⟨1, v, x, y, z, n⟩ = 3) := by unfold leafE; simp [hw', Hid]
    clear hw hw'
    go_enter Try.func18, Try.ntmps18
    go_wp2_with (go_at_call 21; refine (between_any _ _ _ _).mono ?_; rintro e w' ⟨rfl, rfl⟩)
    go_quiet (first | (go_at_call 23; exact Calls.quiet_of_same (two_any _ (by omega) (by omega) _)) | (go_at_call 21; exact Calls.quiet_of_same (between_any _ _ _ _)))
    go_wp2
    go_ret
    exact ⟨ret_int (by rw [HE.out, HL.out]), below_drewN (bal (Below.refl _ _) _) _⟩
  rw [hw] at hbw
  have HW := hide hw
  clear hw
  by_cases hx : x = 0
  rotate_left
  · have hx' : (x != 0) = true := by simp [hx]
    have HL : Hid (leafE ⟨1, v, x, y, z, n⟩ = 1) := by unfold leafE; simp [HW.out, hx, Hid]
    clear hx
    go_enter Try.func18, Try.ntmps18
    go_wp2_with (go_at_call 21; refine (between_any _ _ _ _).mono ?_; rintro e w' ⟨rfl, rfl⟩)
    go_quiet (first | (go_at_call 23; exact Calls.quiet_of_same (two_any _ (by omega) (by omega) _)) | (go_at_call 21; exact Calls.quiet_of_same (between_any _ _ _ _)))
    go_wp2
    go_ret
    exact ⟨ret_int (by rw [HE.out, HL.out]), below_drewN (bal (Below.refl _ _) _) _⟩
  have hx' : (x != 0) = false := by simp [hx]
  have HX := hide hx
  clear hx
  by_cases hy : y = 0
  rotate_left
  · have hy' : (y != 0) = true := by simp [hy]
    have HL : Hid (leafE ⟨1, v, x, y, z, n⟩ = 1) := by unfold leafE; simp [HW.out, hy, Hid]
    clear hy
    go_enter Try.func18, Try.ntmps18
    go_wp2_with (go_at_call 21; refine (between_any _ _ _ _).mono ?_; rintro e w' ⟨rfl, rfl⟩)
    go_quiet (first | (go_at_call 23; exact Calls.quiet_of_same (two_any _ (by omega) (by omega) _)) | (go_at_call 21; exact Calls.quiet_of_same (between_any _ _ _ _)))
    go_wp2
    go_ret
    exact ⟨ret_int (by rw [HE.out, HL.out]), below_drewN (bal (Below.refl _ _) _) _⟩
  have hy' : (y != 0) = false := by simp [hy]
  have HY := hide hy
  clear hy
  by_cases hz : z = 0
  rotate_left
  · have hz' : (z != 0) = true := by simp [hz]
    have HL : Hid (leafE ⟨1, v, x, y, z, n⟩ = 1) := by unfold leafE; simp [HW.out, hz, Hid]
    clear hz
    go_enter Try.func18, Try.ntmps18
    go_wp2_with (go_at_call 21; refine (between_any _ _ _ _).mono ?_; rintro e w' ⟨rfl, rfl⟩)
    go_quiet (first | (go_at_call 23; exact Calls.quiet_of_same (two_any _ (by omega) (by omega) _)) | (go_at_call 21; exact Calls.quiet_of_same (between_any _ _ _ _)))
    go_wp2
    go_ret
    exact ⟨ret_int (by rw [HE.out, HL.out]), below_drewN (bal (Below.refl _ _) _) _⟩
  have hz' : (z != 0) = false := by simp [hz]
  have HZ := hide hz
  clear hz
  have HL : Hid (leafE ⟨1, v, x, y, z, n⟩ = 0) := by unfold leafE; simp [HW.out, HX.out, HY.out, HZ.out, Hid]
  go_enter Try.func18, Try.ntmps18
  go_wp2_with (go_at_call 21; refine (between_any _ _ _ _).mono ?_; rintro e w' ⟨rfl, rfl⟩)
  go_quiet (first | (go_at_call 23; exact Calls.quiet_of_same (two_any _ (by omega) (by omega) _)) | (go_at_call 21; exact Calls.quiet_of_same (between_any _ _ _ _)))
  go_wp2
  go_ret
  exact ⟨ret_int (by rw [HE.out, HL.out]), below_drewN (bal (Below.refl _ _) _) _⟩


set_option maxRecDepth 100000 in
set_option maxHeartbeats 2000000 in
theorem checkNodeR_2 (p : Option Addr) (cap : Nat) (ns : List Nd) (hl : ns.length ≤ 80) (i : Nat) (hi : i < ns.length) (w : World) (hN : NodesAt w p ns) (hkd : ns[i].kind = 2) (hv : btw ns[i].width 1 8 = true) :
    Calls Try.prog 18 #[.slice p ns.length cap, .int .i64 i] w fun e w' => e = .returned (.int .i64 (nodeE ns i ns[i])) ∧ Below w.heap.size w w' := by
  have HNN := hide hN
  obtain ⟨b, off, rfl, hc⟩ := hN (by omega)
  obtain ⟨c0, c1, c2, c3, c4, c5⟩ := hc i hi
  have hi2 : (i : Int) < (ns.length : Int) := by omega
  clear hN hc
  generalize ns[i] = nd at *
  obtain ⟨k, v, x, y, z, n⟩ := nd
  simp only at *
  subst hkd
  have hk : btw 2 1 23 = true := by decide
  have hv2 := btw_true.1 hv
  have HE : Hid (nodeE ns i ⟨2, v, x, y, z, n⟩ = leafE ⟨2, v, x, y, z, n⟩) := by
    unfold nodeE; rw [if_neg (by simp [hk]), if_neg (by simp [hv]), if_neg (by simp)]; rfl
  by_cases hn : n = 0
  rotate_left
  · have hn' : (n != 0) = true := by simp [hn]
    have HL : Hid (leafE ⟨2, v, x, y, z, n⟩ = 1) := by unfold leafE; simp [hn, Hid]
    clear hn
    go_enter Try.func18, Try.ntmps18
    go_wp2_with (go_at_call 21; refine (between_any _ _ _ _).mono ?_; rintro e w' ⟨rfl, rfl⟩)
    go_quiet (fail)
    go_wp2
    go_ret
    exact ⟨ret_int (by rw [HE.out, HL.out]), below_drewN (bal (Below.refl _ _) _) _⟩
  have hn' : (n != 0) = false := by simp [hn]
  have HN0 := hide hn
  clear hn
  by_cases hx : x = 0
  rotate_left
  · have hx' : (x != 0) = true := by simp [hx]
    have HL : Hid (leafE ⟨2, v, x, y, z, n⟩ = 1) := by unfold leafE; simp [HN0.out, hx, Hid]
    clear hx
    go_enter Try.func18, Try.ntmps18
    go_wp2_with (go_at_call 21; refine (between_any _ _ _ _).mono ?_; rintro e w' ⟨rfl, rfl⟩)
    go_quiet (fail)
    go_wp2
    go_ret
    exact ⟨ret_int (by rw [HE.out, HL.out]), below_drewN (bal (Below.refl _ _) _) _⟩
  have hx' : (x != 0) = false := by simp [hx]
  have HX := hide hx
  clear hx
  by_cases hy : y = 0
  rotate_left
  · have hy' : (y != 0) = true := by simp [hy]
    have HL : Hid (leafE ⟨2, v, x, y, z, n⟩ = 1) := by unfold leafE; simp [HN0.out, hy, Hid]
    clear hy
    go_enter Try.func18, Try.ntmps18
    go_wp2_with (go_at_call 21; refine (between_any _ _ _ _).mono ?_; rintro e w' ⟨rfl, rfl⟩)
    go_quiet (fail)
    go_wp2
    go_ret
    exact ⟨ret_int (by rw [HE.out, HL.out]), below_drewN (bal (Below.refl _ _) _) _⟩
  have hy' : (y != 0) = false := by simp [hy]
  have HY := hide hy
  clear hy
  by_cases hz : z = 0
  rotate_left
  · have hz' : (z != 0) = true := by simp [hz]
    have HL : Hid (leafE ⟨2, v, x, y, z, n⟩ = 1) := by unfold leafE; simp [HN0.out, hz, Hid]
    clear hz
    go_enter Try.func18, Try.ntmps18
    go_wp2_with (go_at_call 21; refine (between_any _ _ _ _).mono ?_; rintro e w' ⟨rfl, rfl⟩)
    go_quiet (fail)
    go_wp2
    go_ret
    exact ⟨ret_int (by rw [HE.out, HL.out]), below_drewN (bal (Below.refl _ _) _) _⟩
  have hz' : (z != 0) = false := by simp [hz]
  have HZ := hide hz
  clear hz
  have HL : Hid (leafE ⟨2, v, x, y, z, n⟩ = 0) := by unfold leafE; simp [HN0.out, HX.out, HY.out, HZ.out, Hid]
  go_enter Try.func18, Try.ntmps18
  go_wp2_with (go_at_call 21; refine (between_any _ _ _ _).mono ?_; rintro e w' ⟨rfl, rfl⟩)
  go_quiet (fail)
  go_wp2
  go_ret
  exact ⟨ret_int (by rw [HE.out, HL.out]), below_drewN (bal (Below.refl _ _) _) _⟩


set_option maxRecDepth 100000 in
set_option maxHeartbeats 2000000 in
theorem checkNodeR_3 (p : Option Addr) (cap : Nat) (ns : List Nd) (hl : ns.length ≤ 80) (i : Nat) (hi : i < ns.length) (w : World) (hN : NodesAt w p ns) (hkd : ns[i].kind = 3) (hv : btw ns[i].width 1 8 = true) :
    Calls Try.prog 18 #[.slice p ns.length cap, .int .i64 i] w fun e w' => e = .returned (.int .i64 (nodeE ns i ns[i])) ∧ Below w.heap.size w w' := by
  have HNN := hide hN
  obtain ⟨b, off, rfl, hc⟩ := hN (by omega)
  obtain ⟨c0, c1, c2, c3, c4, c5⟩ := hc i hi
  have hi2 : (i : Int) < (ns.length : Int) := by omega
  clear hN hc
  generalize ns[i] = nd at *
  obtain ⟨k, v, x, y, z, n⟩ := nd
  simp only at *
  subst hkd
  have hk : btw 3 1 23 = true := by decide
  have hv2 := btw_true.1 hv
  have HE : Hid (nodeE ns i ⟨3, v, x, y, z, n⟩ = leafE ⟨3, v, x, y, z, n⟩) := by
    unfold nodeE; rw [if_neg (by simp [hk]), if_neg (by simp [hv]), if_neg (by simp)]; rfl
  by_cases hn : n = 0
  rotate_left
  · have hn' : (n != 0) = true := by simp [hn]
    have HL : Hid (leafE ⟨3, v, x, y, z, n⟩ = 1) := by unfold leafE; simp [hn, Hid]
    clear hn
    go_enter Try.func18, Try.ntmps18
    go_wp2_with (go_at_call 21; refine (between_any _ _ _ _).mono ?_; rintro e w' ⟨rfl, rfl⟩)
    go_quiet (fail)
    go_wp2
    go_ret
    exact ⟨ret_int (by rw [HE.out, HL.out]), below_drewN (bal (Below.refl _ _) _) _⟩
  have hn' : (n != 0) = false := by simp [hn]
  have HN0 := hide hn
  clear hn
  by_cases hx : x = 0
  rotate_left
  · have hx' : (x != 0) = true := by simp [hx]
    have HL : Hid (leafE ⟨3, v, x, y, z, n⟩ = 1) := by unfold leafE; simp [HN0.out, hx, Hid]
    clear hx
    go_enter Try.func18, Try.ntmps18
    go_wp2_with (go_at_call 21; refine (between_any _ _ _ _).mono ?_; rintro e w' ⟨rfl, rfl⟩)
    go_quiet (fail)
    go_wp2
    go_ret
    exact ⟨ret_int (by rw [HE.out, HL.out]), below_drewN (bal (Below.refl _ _) _) _⟩
  have hx' : (x != 0) = false := by simp [hx]
  have HX := hide hx
  clear hx
  by_cases hy : y = 0
  rotate_left
  · have hy' : (y != 0) = true := by simp [hy]
    have HL : Hid (leafE ⟨3, v, x, y, z, n⟩ = 1) := by unfold leafE; simp [HN0.out, hy, Hid]
    clear hy
    go_enter Try.func18, Try.ntmps18
    go_wp2_with (go_at_call 21; refine (between_any _ _ _ _).mono ?_; rintro e w' ⟨rfl, rfl⟩)
    go_quiet (fail)
    go_wp2
    go_ret
    exact ⟨ret_int (by rw [HE.out, HL.out]), below_drewN (bal (Below.refl _ _) _) _⟩
  have hy' : (y != 0) = false := by simp [hy]
  have HY := hide hy
  clear hy
  by_cases hz : z = 0
  rotate_left
  · have hz' : (z != 0) = true := by simp [hz]
    have HL : Hid (leafE ⟨3, v, x, y, z, n⟩ = 1) := by unfold leafE; simp [HN0.out, hz, Hid]
    clear hz
    go_enter Try.func18, Try.ntmps18
    go_wp2_with (go_at_call 21; refine (between_any _ _ _ _).mono ?_; rintro e w' ⟨rfl, rfl⟩)
    go_quiet (fail)
    go_wp2
    go_ret
    exact ⟨ret_int (by rw [HE.out, HL.out]), below_drewN (bal (Below.refl _ _) _) _⟩
  have hz' : (z != 0) = false := by simp [hz]
  have HZ := hide hz
  clear hz
  have HL : Hid (leafE ⟨3, v, x, y, z, n⟩ = 0) := by unfold leafE; simp [HN0.out, HX.out, HY.out, HZ.out, Hid]
  go_enter Try.func18, Try.ntmps18
  go_wp2_with (go_at_call 21; refine (between_any _ _ _ _).mono ?_; rintro e w' ⟨rfl, rfl⟩)
  go_quiet (fail)
  go_wp2
  go_ret
  exact ⟨ret_int (by rw [HE.out, HL.out]), below_drewN (bal (Below.refl _ _) _) _⟩


end Go.Proofs.Ytfobcnhibhbbaaa
