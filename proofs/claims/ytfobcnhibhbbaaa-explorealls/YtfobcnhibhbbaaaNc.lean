/- The plain text: an operation is checked. -/
import Derived.Test.YtfobcnhibhbbaaaNb
namespace Go.Proofs.Ytfobcnhibhbbaaa
open Go.RowKit
set_option maxRecDepth 100000

set_option maxRecDepth 100000 in
set_option maxHeartbeats 2000000 in
theorem checkNodeR_op1 (p : Option Addr) (cap : Nat) (ns : List Nd) (hl : ns.length ≤ 80) (i : Nat) (hi : i < ns.length) (w : World) (hN : NodesAt w p ns) (hk4 : 4 ≤ ns[i].kind) (hkk : ns[i].kind ≤ 23) (hv : btw ns[i].width 1 8 = true) (ht : takes ns[i].kind = 1) :
    Calls Try.prog 18 #[.slice p ns.length cap, .int .i64 i] w fun e w' => e = .returned (.int .i64 (nodeE ns i ns[i])) ∧ Below w.heap.size w w' := by
  have HNN := hide hN
  obtain ⟨b, off, rfl, hc⟩ := hN (by omega)
  obtain ⟨c0, c1, c2, c3, c4, c5⟩ := hc i hi
  have hi2 : (i : Int) < (ns.length : Int) := by omega
  clear hN hc
  generalize ns[i] = nd at *
  obtain ⟨k, v, x, y, z, n⟩ := nd
  simp only at *
  have hk : btw k 1 23 = true := btw_true.2 (by omega)
  have hv2 := btw_true.1 hv
  have HE : Hid (nodeE ns i ⟨k, v, x, y, z, n⟩ = opE ns i ⟨k, v, x, y, z, n⟩) := by
    unfold nodeE; rw [if_neg (by simp [hk]), if_neg (by simp [hv]), if_pos hk4]; rfl
  have hw := takes_any k
  rw [ht] at hw
  have Hw := hide hw
  have HT := hide ht
  clear hw ht
  have e1 : (k == 1) = false := by simp; omega
  go_enter Try.func18, Try.ntmps18
  go_wp2_with (go_at_call 21; refine (between_any _ _ _ _).mono ?_; rintro e w' ⟨rfl, rfl⟩)
  go_quiet (fail)
  go_wp2
  refine wp_loop_rounds 4 ?_
  rw [rounds_succ]
  by_cases n0 : btw x 0 ((i : Int) - 1) = true
  rotate_left
  · have n0' : btw x 0 ((i : Int) - 1) = false := by simpa using n0
    have HB : Hid (opE ns i ⟨k, v, x, y, z, n⟩ = 4) := opE_bad0 HT.out (by have := btw_false.1 n0'; simp [badOn]; omega)
    clear n0
    go_wp2_with (first | (go_at_call 21; refine (between_any _ _ _ _).mono ?_; rintro e w' ⟨rfl, rfl⟩) | (go_at_call 40; refine (Hw.out _).mono ?_; rintro e w' ⟨rfl, rfl⟩))
    go_ret
    exact ⟨ret_int (by rw [HE.out, HB.out]), below_drewN (bal (bal (Below.refl _ _) _) _) _⟩
  have r0 := btw_true.1 n0
  have G0 := hide (show badOn 1 0 i x = false from by simp [badOn]; omega)
  go_wp2_with (first | (go_at_call 21; refine (between_any _ _ _ _).mono ?_; rintro e w' ⟨rfl, rfl⟩) | (go_at_call 40; refine (Hw.out _).mono ?_; rintro e w' ⟨rfl, rfl⟩))
  rw [rounds_succ]
  by_cases n1 : y = 0
  rotate_left
  · have n1' : (y != 0) = true := by simp [n1]
    have HB : Hid (opE ns i ⟨k, v, x, y, z, n⟩ = 4) := opE_bad1 HT.out (by simp [badOn]; omega)
    clear n1
    go_wp2_with (first | (go_at_call 21; refine (between_any _ _ _ _).mono ?_; rintro e w' ⟨rfl, rfl⟩) | (go_at_call 40; refine (Hw.out _).mono ?_; rintro e w' ⟨rfl, rfl⟩))
    go_ret
    exact ⟨ret_int (by rw [HE.out, HB.out]), below_drewN (bal (bal (Below.refl _ _) _) _) _⟩
  have n1' : (y != 0) = false := by simp [n1]
  have G1 := hide (show badOn 1 1 i y = false from by simp [badOn]; omega)
  clear n1
  go_wp2_with (first | (go_at_call 21; refine (between_any _ _ _ _).mono ?_; rintro e w' ⟨rfl, rfl⟩) | (go_at_call 40; refine (Hw.out _).mono ?_; rintro e w' ⟨rfl, rfl⟩))
  rw [rounds_succ]
  by_cases n2 : z = 0
  rotate_left
  · have n2' : (z != 0) = true := by simp [n2]
    have HB : Hid (opE ns i ⟨k, v, x, y, z, n⟩ = 4) := opE_bad2 HT.out (by simp [badOn]; omega)
    clear n2
    go_wp2_with (first | (go_at_call 21; refine (between_any _ _ _ _).mono ?_; rintro e w' ⟨rfl, rfl⟩) | (go_at_call 40; refine (Hw.out _).mono ?_; rintro e w' ⟨rfl, rfl⟩))
    go_ret
    exact ⟨ret_int (by rw [HE.out, HB.out]), below_drewN (bal (bal (Below.refl _ _) _) _) _⟩
  have n2' : (z != 0) = false := by simp [n2]
  have G2 := hide (show badOn 1 2 i z = false from by simp [badOn]; omega)
  clear n2
  go_wp2_with (first | (go_at_call 21; refine (between_any _ _ _ _).mono ?_; rintro e w' ⟨rfl, rfl⟩) | (go_at_call 40; refine (Hw.out _).mono ?_; rintro e w' ⟨rfl, rfl⟩))
  rw [rounds_succ]
  have hf0 : opE ns i ⟨k, v, x, y, z, n⟩ = fitE k v n (wds ns 1 0 x) (wds ns 1 1 y) (wds ns 1 2 z) := by
    unfold opE
    simp only [HT.out, G0.out, G1.out, G2.out, Bool.or_self, Bool.false_eq_true, if_false]
  have HF := hide hf0
  have HWO : Hid (∀ w1, Below w.heap.size w w1 → Calls Try.prog 42 #[.slice (some ⟨b, off, none⟩) ns.length cap, .agg #[.int .i64 k, .int .i64 v, .int .i64 x, .int .i64 y, .int .i64 z, .int .i64 n]] w1 fun e w' => e = .returned (arr3 (wds ns 1 0 x) (wds ns 1 1 y) (wds ns 1 2 z)) ∧ Below w1.heap.size w1 w') := by
    intro w1 hb
    have h := widthsOf_any (some ⟨b, off, none⟩) cap ns hl k v x y z n w1 (HNN.out.later hb) (by omega) (fun _ => by omega) (fun h => by rw [HT.out] at h; omega) (fun h => by rw [HT.out] at h; omega)
    rw [HT.out] at h
    exact h
  clear hf0
  go_wp2_with (first | (go_at_call 21; refine (between_any _ _ _ _).mono ?_; rintro e w' ⟨rfl, rfl⟩) | (go_at_call 40; refine (Hw.out _).mono ?_; rintro e w' ⟨rfl, rfl⟩))
  generalize wds ns 1 0 x = u0 at *
  generalize wds ns 1 1 y = u1 at *
  generalize wds ns 1 2 z = u2 at *
  have z0 : (((w.alloc (.cells #[.int .i64 k, .int .i64 v, .int .i64 x, .int .i64 y, .int .i64 z, .int .i64 n] 65)).drewN nq).alloc (.cells #[.int .i64 x, .int .i64 y, .int .i64 z] 3)).cell? ⟨w.heap.size, 0, none⟩ = some (.int .i64 k) := by simp [go_sem]
  have z1 : (((w.alloc (.cells #[.int .i64 k, .int .i64 v, .int .i64 x, .int .i64 y, .int .i64 z, .int .i64 n] 65)).drewN nq).alloc (.cells #[.int .i64 x, .int .i64 y, .int .i64 z] 3)).cell? ⟨w.heap.size, 1, none⟩ = some (.int .i64 v) := by simp [go_sem]
  have z2 : (((w.alloc (.cells #[.int .i64 k, .int .i64 v, .int .i64 x, .int .i64 y, .int .i64 z, .int .i64 n] 65)).drewN nq).alloc (.cells #[.int .i64 x, .int .i64 y, .int .i64 z] 3)).cell? ⟨w.heap.size, 2, none⟩ = some (.int .i64 x) := by simp [go_sem]
  have z3 : (((w.alloc (.cells #[.int .i64 k, .int .i64 v, .int .i64 x, .int .i64 y, .int .i64 z, .int .i64 n] 65)).drewN nq).alloc (.cells #[.int .i64 x, .int .i64 y, .int .i64 z] 3)).cell? ⟨w.heap.size, 3, none⟩ = some (.int .i64 y) := by simp [go_sem]
  have z4 : (((w.alloc (.cells #[.int .i64 k, .int .i64 v, .int .i64 x, .int .i64 y, .int .i64 z, .int .i64 n] 65)).drewN nq).alloc (.cells #[.int .i64 x, .int .i64 y, .int .i64 z] 3)).cell? ⟨w.heap.size, 4, none⟩ = some (.int .i64 z) := by simp [go_sem]
  have z5 : (((w.alloc (.cells #[.int .i64 k, .int .i64 v, .int .i64 x, .int .i64 y, .int .i64 z, .int .i64 n] 65)).drewN nq).alloc (.cells #[.int .i64 x, .int .i64 y, .int .i64 z] 3)).cell? ⟨w.heap.size, 5, none⟩ = some (.int .i64 n) := by simp [go_sem]
  have hba : Below w.heap.size w (((w.alloc (.cells #[.int .i64 k, .int .i64 v, .int .i64 x, .int .i64 y, .int .i64 z, .int .i64 n] 65)).drewN nq).alloc (.cells #[.int .i64 x, .int .i64 y, .int .i64 z] 3)) := bal (below_drewN (bal (Below.refl _ _) _) nq) _
  generalize (((w.alloc (.cells #[.int .i64 k, .int .i64 v, .int .i64 x, .int .i64 y, .int .i64 z, .int .i64 n] 65)).drewN nq).alloc (.cells #[.int .i64 x, .int .i64 y, .int .i64 z] 3)) = wa at *
  go_region_held3 (fun w' => w'.cell? ⟨w.heap.size, 0, none⟩ = some (.int .i64 k) ∧ w'.cell? ⟨w.heap.size, 1, none⟩ = some (.int .i64 v) ∧ w'.cell? ⟨w.heap.size, 2, none⟩ = some (.int .i64 x) ∧ w'.cell? ⟨w.heap.size, 3, none⟩ = some (.int .i64 y) ∧ w'.cell? ⟨w.heap.size, 4, none⟩ = some (.int .i64 z) ∧ w'.cell? ⟨w.heap.size, 5, none⟩ = some (.int .i64 n))
    (first | exact ⟨z0, z1, z2, z3, z4, z5⟩ | exact ⟨cell_later hbc z0, cell_later hbc z1, cell_later hbc z2, cell_later hbc z3, cell_later hbc z4, cell_later hbc z5⟩ | (have hbe := bthen (show Below wa.drew.heap.size wa.drew _ from hbc) hbd; exact ⟨cell_later hbe z0, cell_later hbe z1, cell_later hbe z2, cell_later hbe z3, cell_later hbe z4, cell_later hbe z5⟩) | go_keep)
    (first | (go_at_call 42; refine (HWO.out _ hba.drew).mono ?_; rintro e w2 ⟨rfl, hbc⟩) | (go_at_call 41; refine (refOf_any _ _ _ _ _ _ _).mono ?_; rintro e w3 ⟨rfl, hbd⟩))
  all_goals
    go_wp2
    go_ret
    exact ⟨ret_int (by rw [HE.out, HF.out]), bthen (bthen hba.drew hbc) hbd⟩

set_option maxRecDepth 100000 in
set_option maxHeartbeats 2000000 in
theorem checkNodeR_op2 (p : Option Addr) (cap : Nat) (ns : List Nd) (hl : ns.length ≤ 80) (i : Nat) (hi : i < ns.length) (w : World) (hN : NodesAt w p ns) (hk4 : 4 ≤ ns[i].kind) (hkk : ns[i].kind ≤ 23) (hv : btw ns[i].width 1 8 = true) (ht : takes ns[i].kind = 2) :
    Calls Try.prog 18 #[.slice p ns.length cap, .int .i64 i] w fun e w' => e = .returned (.int .i64 (nodeE ns i ns[i])) ∧ Below w.heap.size w w' := by
  have HNN := hide hN
  obtain ⟨b, off, rfl, hc⟩ := hN (by omega)
  obtain ⟨c0, c1, c2, c3, c4, c5⟩ := hc i hi
  have hi2 : (i : Int) < (ns.length : Int) := by omega
  clear hN hc
  generalize ns[i] = nd at *
  obtain ⟨k, v, x, y, z, n⟩ := nd
  simp only at *
  have hk : btw k 1 23 = true := btw_true.2 (by omega)
  have hv2 := btw_true.1 hv
  have HE : Hid (nodeE ns i ⟨k, v, x, y, z, n⟩ = opE ns i ⟨k, v, x, y, z, n⟩) := by
    unfold nodeE; rw [if_neg (by simp [hk]), if_neg (by simp [hv]), if_pos hk4]; rfl
  have hw := takes_any k
  rw [ht] at hw
  have Hw := hide hw
  have HT := hide ht
  clear hw ht
  have e1 : (k == 1) = false := by simp; omega
  go_enter Try.func18, Try.ntmps18
  go_wp2_with (go_at_call 21; refine (between_any _ _ _ _).mono ?_; rintro e w' ⟨rfl, rfl⟩)
  go_quiet (fail)
  go_wp2
  refine wp_loop_rounds 4 ?_
  rw [rounds_succ]
  by_cases n0 : btw x 0 ((i : Int) - 1) = true
  rotate_left
  · have n0' : btw x 0 ((i : Int) - 1) = false := by simpa using n0
    have HB : Hid (opE ns i ⟨k, v, x, y, z, n⟩ = 4) := opE_bad0 HT.out (by have := btw_false.1 n0'; simp [badOn]; omega)
    clear n0
    go_wp2_with (first | (go_at_call 21; refine (between_any _ _ _ _).mono ?_; rintro e w' ⟨rfl, rfl⟩) | (go_at_call 40; refine (Hw.out _).mono ?_; rintro e w' ⟨rfl, rfl⟩))
    go_ret
    exact ⟨ret_int (by rw [HE.out, HB.out]), below_drewN (bal (bal (Below.refl _ _) _) _) _⟩
  have r0 := btw_true.1 n0
  have G0 := hide (show badOn 2 0 i x = false from by simp [badOn]; omega)
  go_wp2_with (first | (go_at_call 21; refine (between_any _ _ _ _).mono ?_; rintro e w' ⟨rfl, rfl⟩) | (go_at_call 40; refine (Hw.out _).mono ?_; rintro e w' ⟨rfl, rfl⟩))
  rw [rounds_succ]
  by_cases n1 : btw y 0 ((i : Int) - 1) = true
  rotate_left
  · have n1' : btw y 0 ((i : Int) - 1) = false := by simpa using n1
    have HB : Hid (opE ns i ⟨k, v, x, y, z, n⟩ = 4) := opE_bad1 HT.out (by have := btw_false.1 n1'; simp [badOn]; omega)
    clear n1
    go_wp2_with (first | (go_at_call 21; refine (between_any _ _ _ _).mono ?_; rintro e w' ⟨rfl, rfl⟩) | (go_at_call 40; refine (Hw.out _).mono ?_; rintro e w' ⟨rfl, rfl⟩))
    go_ret
    exact ⟨ret_int (by rw [HE.out, HB.out]), below_drewN (bal (bal (Below.refl _ _) _) _) _⟩
  have r1 := btw_true.1 n1
  have G1 := hide (show badOn 2 1 i y = false from by simp [badOn]; omega)
  go_wp2_with (first | (go_at_call 21; refine (between_any _ _ _ _).mono ?_; rintro e w' ⟨rfl, rfl⟩) | (go_at_call 40; refine (Hw.out _).mono ?_; rintro e w' ⟨rfl, rfl⟩))
  rw [rounds_succ]
  by_cases n2 : z = 0
  rotate_left
  · have n2' : (z != 0) = true := by simp [n2]
    have HB : Hid (opE ns i ⟨k, v, x, y, z, n⟩ = 4) := opE_bad2 HT.out (by simp [badOn]; omega)
    clear n2
    go_wp2_with (first | (go_at_call 21; refine (between_any _ _ _ _).mono ?_; rintro e w' ⟨rfl, rfl⟩) | (go_at_call 40; refine (Hw.out _).mono ?_; rintro e w' ⟨rfl, rfl⟩))
    go_ret
    exact ⟨ret_int (by rw [HE.out, HB.out]), below_drewN (bal (bal (Below.refl _ _) _) _) _⟩
  have n2' : (z != 0) = false := by simp [n2]
  have G2 := hide (show badOn 2 2 i z = false from by simp [badOn]; omega)
  clear n2
  go_wp2_with (first | (go_at_call 21; refine (between_any _ _ _ _).mono ?_; rintro e w' ⟨rfl, rfl⟩) | (go_at_call 40; refine (Hw.out _).mono ?_; rintro e w' ⟨rfl, rfl⟩))
  rw [rounds_succ]
  have hf0 : opE ns i ⟨k, v, x, y, z, n⟩ = fitE k v n (wds ns 2 0 x) (wds ns 2 1 y) (wds ns 2 2 z) := by
    unfold opE
    simp only [HT.out, G0.out, G1.out, G2.out, Bool.or_self, Bool.false_eq_true, if_false]
  have HF := hide hf0
  have HWO : Hid (∀ w1, Below w.heap.size w w1 → Calls Try.prog 42 #[.slice (some ⟨b, off, none⟩) ns.length cap, .agg #[.int .i64 k, .int .i64 v, .int .i64 x, .int .i64 y, .int .i64 z, .int .i64 n]] w1 fun e w' => e = .returned (arr3 (wds ns 2 0 x) (wds ns 2 1 y) (wds ns 2 2 z)) ∧ Below w1.heap.size w1 w') := by
    intro w1 hb
    have h := widthsOf_any (some ⟨b, off, none⟩) cap ns hl k v x y z n w1 (HNN.out.later hb) (by omega) (fun _ => by omega) (fun _ => by omega) (fun h => by rw [HT.out] at h; omega)
    rw [HT.out] at h
    exact h
  clear hf0
  go_wp2_with (first | (go_at_call 21; refine (between_any _ _ _ _).mono ?_; rintro e w' ⟨rfl, rfl⟩) | (go_at_call 40; refine (Hw.out _).mono ?_; rintro e w' ⟨rfl, rfl⟩))
  generalize wds ns 2 0 x = u0 at *
  generalize wds ns 2 1 y = u1 at *
  generalize wds ns 2 2 z = u2 at *
  have z0 : (((w.alloc (.cells #[.int .i64 k, .int .i64 v, .int .i64 x, .int .i64 y, .int .i64 z, .int .i64 n] 65)).drewN nq).alloc (.cells #[.int .i64 x, .int .i64 y, .int .i64 z] 3)).cell? ⟨w.heap.size, 0, none⟩ = some (.int .i64 k) := by simp [go_sem]
  have z1 : (((w.alloc (.cells #[.int .i64 k, .int .i64 v, .int .i64 x, .int .i64 y, .int .i64 z, .int .i64 n] 65)).drewN nq).alloc (.cells #[.int .i64 x, .int .i64 y, .int .i64 z] 3)).cell? ⟨w.heap.size, 1, none⟩ = some (.int .i64 v) := by simp [go_sem]
  have z2 : (((w.alloc (.cells #[.int .i64 k, .int .i64 v, .int .i64 x, .int .i64 y, .int .i64 z, .int .i64 n] 65)).drewN nq).alloc (.cells #[.int .i64 x, .int .i64 y, .int .i64 z] 3)).cell? ⟨w.heap.size, 2, none⟩ = some (.int .i64 x) := by simp [go_sem]
  have z3 : (((w.alloc (.cells #[.int .i64 k, .int .i64 v, .int .i64 x, .int .i64 y, .int .i64 z, .int .i64 n] 65)).drewN nq).alloc (.cells #[.int .i64 x, .int .i64 y, .int .i64 z] 3)).cell? ⟨w.heap.size, 3, none⟩ = some (.int .i64 y) := by simp [go_sem]
  have z4 : (((w.alloc (.cells #[.int .i64 k, .int .i64 v, .int .i64 x, .int .i64 y, .int .i64 z, .int .i64 n] 65)).drewN nq).alloc (.cells #[.int .i64 x, .int .i64 y, .int .i64 z] 3)).cell? ⟨w.heap.size, 4, none⟩ = some (.int .i64 z) := by simp [go_sem]
  have z5 : (((w.alloc (.cells #[.int .i64 k, .int .i64 v, .int .i64 x, .int .i64 y, .int .i64 z, .int .i64 n] 65)).drewN nq).alloc (.cells #[.int .i64 x, .int .i64 y, .int .i64 z] 3)).cell? ⟨w.heap.size, 5, none⟩ = some (.int .i64 n) := by simp [go_sem]
  have hba : Below w.heap.size w (((w.alloc (.cells #[.int .i64 k, .int .i64 v, .int .i64 x, .int .i64 y, .int .i64 z, .int .i64 n] 65)).drewN nq).alloc (.cells #[.int .i64 x, .int .i64 y, .int .i64 z] 3)) := bal (below_drewN (bal (Below.refl _ _) _) nq) _
  generalize (((w.alloc (.cells #[.int .i64 k, .int .i64 v, .int .i64 x, .int .i64 y, .int .i64 z, .int .i64 n] 65)).drewN nq).alloc (.cells #[.int .i64 x, .int .i64 y, .int .i64 z] 3)) = wa at *
  go_region_held3 (fun w' => w'.cell? ⟨w.heap.size, 0, none⟩ = some (.int .i64 k) ∧ w'.cell? ⟨w.heap.size, 1, none⟩ = some (.int .i64 v) ∧ w'.cell? ⟨w.heap.size, 2, none⟩ = some (.int .i64 x) ∧ w'.cell? ⟨w.heap.size, 3, none⟩ = some (.int .i64 y) ∧ w'.cell? ⟨w.heap.size, 4, none⟩ = some (.int .i64 z) ∧ w'.cell? ⟨w.heap.size, 5, none⟩ = some (.int .i64 n))
    (first | exact ⟨z0, z1, z2, z3, z4, z5⟩ | exact ⟨cell_later hbc z0, cell_later hbc z1, cell_later hbc z2, cell_later hbc z3, cell_later hbc z4, cell_later hbc z5⟩ | (have hbe := bthen (show Below wa.drew.heap.size wa.drew _ from hbc) hbd; exact ⟨cell_later hbe z0, cell_later hbe z1, cell_later hbe z2, cell_later hbe z3, cell_later hbe z4, cell_later hbe z5⟩) | go_keep)
    (first | (go_at_call 42; refine (HWO.out _ hba.drew).mono ?_; rintro e w2 ⟨rfl, hbc⟩) | (go_at_call 41; refine (refOf_any _ _ _ _ _ _ _).mono ?_; rintro e w3 ⟨rfl, hbd⟩))
  all_goals
    go_wp2
    go_ret
    exact ⟨ret_int (by rw [HE.out, HF.out]), bthen (bthen hba.drew hbc) hbd⟩

set_option maxRecDepth 100000 in
set_option maxHeartbeats 2000000 in
theorem checkNodeR_op3 (p : Option Addr) (cap : Nat) (ns : List Nd) (hl : ns.length ≤ 80) (i : Nat) (hi : i < ns.length) (w : World) (hN : NodesAt w p ns) (hk4 : 4 ≤ ns[i].kind) (hkk : ns[i].kind ≤ 23) (hv : btw ns[i].width 1 8 = true) (ht : takes ns[i].kind = 3) :
    Calls Try.prog 18 #[.slice p ns.length cap, .int .i64 i] w fun e w' => e = .returned (.int .i64 (nodeE ns i ns[i])) ∧ Below w.heap.size w w' := by
  have HNN := hide hN
  obtain ⟨b, off, rfl, hc⟩ := hN (by omega)
  obtain ⟨c0, c1, c2, c3, c4, c5⟩ := hc i hi
  have hi2 : (i : Int) < (ns.length : Int) := by omega
  clear hN hc
  generalize ns[i] = nd at *
  obtain ⟨k, v, x, y, z, n⟩ := nd
  simp only at *
  have hk : btw k 1 23 = true := btw_true.2 (by omega)
  have hv2 := btw_true.1 hv
  have HE : Hid (nodeE ns i ⟨k, v, x, y, z, n⟩ = opE ns i ⟨k, v, x, y, z, n⟩) := by
    unfold nodeE; rw [if_neg (by simp [hk]), if_neg (by simp [hv]), if_pos hk4]; rfl
  have hw := takes_any k
  rw [ht] at hw
  have Hw := hide hw
  have HT := hide ht
  clear hw ht
  have e1 : (k == 1) = false := by simp; omega
  go_enter Try.func18, Try.ntmps18
  go_wp2_with (go_at_call 21; refine (between_any _ _ _ _).mono ?_; rintro e w' ⟨rfl, rfl⟩)
  go_quiet (fail)
  go_wp2
  refine wp_loop_rounds 4 ?_
  rw [rounds_succ]
  by_cases n0 : btw x 0 ((i : Int) - 1) = true
  rotate_left
  · have n0' : btw x 0 ((i : Int) - 1) = false := by simpa using n0
    have HB : Hid (opE ns i ⟨k, v, x, y, z, n⟩ = 4) := opE_bad0 HT.out (by have := btw_false.1 n0'; simp [badOn]; omega)
    clear n0
    go_wp2_with (first | (go_at_call 21; refine (between_any _ _ _ _).mono ?_; rintro e w' ⟨rfl, rfl⟩) | (go_at_call 40; refine (Hw.out _).mono ?_; rintro e w' ⟨rfl, rfl⟩))
    go_ret
    exact ⟨ret_int (by rw [HE.out, HB.out]), below_drewN (bal (bal (Below.refl _ _) _) _) _⟩
  have r0 := btw_true.1 n0
  have G0 := hide (show badOn 3 0 i x = false from by simp [badOn]; omega)
  go_wp2_with (first | (go_at_call 21; refine (between_any _ _ _ _).mono ?_; rintro e w' ⟨rfl, rfl⟩) | (go_at_call 40; refine (Hw.out _).mono ?_; rintro e w' ⟨rfl, rfl⟩))
  rw [rounds_succ]
  by_cases n1 : btw y 0 ((i : Int) - 1) = true
  rotate_left
  · have n1' : btw y 0 ((i : Int) - 1) = false := by simpa using n1
    have HB : Hid (opE ns i ⟨k, v, x, y, z, n⟩ = 4) := opE_bad1 HT.out (by have := btw_false.1 n1'; simp [badOn]; omega)
    clear n1
    go_wp2_with (first | (go_at_call 21; refine (between_any _ _ _ _).mono ?_; rintro e w' ⟨rfl, rfl⟩) | (go_at_call 40; refine (Hw.out _).mono ?_; rintro e w' ⟨rfl, rfl⟩))
    go_ret
    exact ⟨ret_int (by rw [HE.out, HB.out]), below_drewN (bal (bal (Below.refl _ _) _) _) _⟩
  have r1 := btw_true.1 n1
  have G1 := hide (show badOn 3 1 i y = false from by simp [badOn]; omega)
  go_wp2_with (first | (go_at_call 21; refine (between_any _ _ _ _).mono ?_; rintro e w' ⟨rfl, rfl⟩) | (go_at_call 40; refine (Hw.out _).mono ?_; rintro e w' ⟨rfl, rfl⟩))
  rw [rounds_succ]
  by_cases n2 : btw z 0 ((i : Int) - 1) = true
  rotate_left
  · have n2' : btw z 0 ((i : Int) - 1) = false := by simpa using n2
    have HB : Hid (opE ns i ⟨k, v, x, y, z, n⟩ = 4) := opE_bad2 HT.out (by have := btw_false.1 n2'; simp [badOn]; omega)
    clear n2
    go_wp2_with (first | (go_at_call 21; refine (between_any _ _ _ _).mono ?_; rintro e w' ⟨rfl, rfl⟩) | (go_at_call 40; refine (Hw.out _).mono ?_; rintro e w' ⟨rfl, rfl⟩))
    go_ret
    exact ⟨ret_int (by rw [HE.out, HB.out]), below_drewN (bal (bal (Below.refl _ _) _) _) _⟩
  have r2 := btw_true.1 n2
  have G2 := hide (show badOn 3 2 i z = false from by simp [badOn]; omega)
  go_wp2_with (first | (go_at_call 21; refine (between_any _ _ _ _).mono ?_; rintro e w' ⟨rfl, rfl⟩) | (go_at_call 40; refine (Hw.out _).mono ?_; rintro e w' ⟨rfl, rfl⟩))
  rw [rounds_succ]
  have hf0 : opE ns i ⟨k, v, x, y, z, n⟩ = fitE k v n (wds ns 3 0 x) (wds ns 3 1 y) (wds ns 3 2 z) := by
    unfold opE
    simp only [HT.out, G0.out, G1.out, G2.out, Bool.or_self, Bool.false_eq_true, if_false]
  have HF := hide hf0
  have HWO : Hid (∀ w1, Below w.heap.size w w1 → Calls Try.prog 42 #[.slice (some ⟨b, off, none⟩) ns.length cap, .agg #[.int .i64 k, .int .i64 v, .int .i64 x, .int .i64 y, .int .i64 z, .int .i64 n]] w1 fun e w' => e = .returned (arr3 (wds ns 3 0 x) (wds ns 3 1 y) (wds ns 3 2 z)) ∧ Below w1.heap.size w1 w') := by
    intro w1 hb
    have h := widthsOf_any (some ⟨b, off, none⟩) cap ns hl k v x y z n w1 (HNN.out.later hb) (by omega) (fun _ => by omega) (fun _ => by omega) (fun _ => by omega)
    rw [HT.out] at h
    exact h
  clear hf0
  go_wp2_with (first | (go_at_call 21; refine (between_any _ _ _ _).mono ?_; rintro e w' ⟨rfl, rfl⟩) | (go_at_call 40; refine (Hw.out _).mono ?_; rintro e w' ⟨rfl, rfl⟩))
  generalize wds ns 3 0 x = u0 at *
  generalize wds ns 3 1 y = u1 at *
  generalize wds ns 3 2 z = u2 at *
  have z0 : (((w.alloc (.cells #[.int .i64 k, .int .i64 v, .int .i64 x, .int .i64 y, .int .i64 z, .int .i64 n] 65)).drewN nq).alloc (.cells #[.int .i64 x, .int .i64 y, .int .i64 z] 3)).cell? ⟨w.heap.size, 0, none⟩ = some (.int .i64 k) := by simp [go_sem]
  have z1 : (((w.alloc (.cells #[.int .i64 k, .int .i64 v, .int .i64 x, .int .i64 y, .int .i64 z, .int .i64 n] 65)).drewN nq).alloc (.cells #[.int .i64 x, .int .i64 y, .int .i64 z] 3)).cell? ⟨w.heap.size, 1, none⟩ = some (.int .i64 v) := by simp [go_sem]
  have z2 : (((w.alloc (.cells #[.int .i64 k, .int .i64 v, .int .i64 x, .int .i64 y, .int .i64 z, .int .i64 n] 65)).drewN nq).alloc (.cells #[.int .i64 x, .int .i64 y, .int .i64 z] 3)).cell? ⟨w.heap.size, 2, none⟩ = some (.int .i64 x) := by simp [go_sem]
  have z3 : (((w.alloc (.cells #[.int .i64 k, .int .i64 v, .int .i64 x, .int .i64 y, .int .i64 z, .int .i64 n] 65)).drewN nq).alloc (.cells #[.int .i64 x, .int .i64 y, .int .i64 z] 3)).cell? ⟨w.heap.size, 3, none⟩ = some (.int .i64 y) := by simp [go_sem]
  have z4 : (((w.alloc (.cells #[.int .i64 k, .int .i64 v, .int .i64 x, .int .i64 y, .int .i64 z, .int .i64 n] 65)).drewN nq).alloc (.cells #[.int .i64 x, .int .i64 y, .int .i64 z] 3)).cell? ⟨w.heap.size, 4, none⟩ = some (.int .i64 z) := by simp [go_sem]
  have z5 : (((w.alloc (.cells #[.int .i64 k, .int .i64 v, .int .i64 x, .int .i64 y, .int .i64 z, .int .i64 n] 65)).drewN nq).alloc (.cells #[.int .i64 x, .int .i64 y, .int .i64 z] 3)).cell? ⟨w.heap.size, 5, none⟩ = some (.int .i64 n) := by simp [go_sem]
  have hba : Below w.heap.size w (((w.alloc (.cells #[.int .i64 k, .int .i64 v, .int .i64 x, .int .i64 y, .int .i64 z, .int .i64 n] 65)).drewN nq).alloc (.cells #[.int .i64 x, .int .i64 y, .int .i64 z] 3)) := bal (below_drewN (bal (Below.refl _ _) _) nq) _
  generalize (((w.alloc (.cells #[.int .i64 k, .int .i64 v, .int .i64 x, .int .i64 y, .int .i64 z, .int .i64 n] 65)).drewN nq).alloc (.cells #[.int .i64 x, .int .i64 y, .int .i64 z] 3)) = wa at *
  go_region_held3 (fun w' => w'.cell? ⟨w.heap.size, 0, none⟩ = some (.int .i64 k) ∧ w'.cell? ⟨w.heap.size, 1, none⟩ = some (.int .i64 v) ∧ w'.cell? ⟨w.heap.size, 2, none⟩ = some (.int .i64 x) ∧ w'.cell? ⟨w.heap.size, 3, none⟩ = some (.int .i64 y) ∧ w'.cell? ⟨w.heap.size, 4, none⟩ = some (.int .i64 z) ∧ w'.cell? ⟨w.heap.size, 5, none⟩ = some (.int .i64 n))
    (first | exact ⟨z0, z1, z2, z3, z4, z5⟩ | exact ⟨cell_later hbc z0, cell_later hbc z1, cell_later hbc z2, cell_later hbc z3, cell_later hbc z4, cell_later hbc z5⟩ | (have hbe := bthen (show Below wa.drew.heap.size wa.drew _ from hbc) hbd; exact ⟨cell_later hbe z0, cell_later hbe z1, cell_later hbe z2, cell_later hbe z3, cell_later hbe z4, cell_later hbe z5⟩) | go_keep)
    (first | (go_at_call 42; refine (HWO.out _ hba.drew).mono ?_; rintro e w2 ⟨rfl, hbc⟩) | (go_at_call 41; refine (refOf_any _ _ _ _ _ _ _).mono ?_; rintro e w3 ⟨rfl, hbd⟩))
  all_goals
    go_wp2
    go_ret
    exact ⟨ret_int (by rw [HE.out, HF.out]), bthen (bthen hba.drew hbc) hbd⟩

end Go.Proofs.Ytfobcnhibhbbaaa
