/- Apply, whatever it is handed. -/
import Derived.Test.YtjhkecnnhddhbaaGreatDoorVe
import Derived.Deep.RegionWith
namespace Go.Proofs.YtjhkecnnhddhbaaGreatDoor.Ev
open Go.RowKit
set_option maxRecDepth 100000
theorem kinds20 {k : Int} (h : 4 ≤ k ∧ k ≤ 23) : k = 4 ∨ k = 5 ∨ k = 6 ∨ k = 7 ∨ k = 8 ∨ k = 9 ∨ k = 10 ∨ k = 11 ∨ k = 12 ∨ k = 13 ∨ k = 14 ∨ k = 15 ∨ k = 16 ∨ k = 17 ∨ k = 18 ∨ k = 19 ∨ k = 20 ∨ k = 21 ∨ k = 22 ∨ k = 23 := by omega
theorem apply_right (k v a b c n wa wb wc : Int) (hfit : fitE k v n wa wb wc = 0) (ha : isW a wa = true) (hb : isW b wb = true) (hc : isW c wc = true) (w : World) :
   Calls Tryz.prog 185 #[.int .i64 k, .int .i64 v, .int .i64 a, .int .i64 b, .int .i64 c, .int .i64 n, arr3 wa wb wc] w fun e w' => e = .returned (.tuple #[.int .i64 (madeE k v a b c n wa wb), .int .i64 0]) ∧ Below w.heap.size w w' := by
 rcases kinds20 (fit_zero hfit).2.2.2.2 with rfl | rfl | rfl | rfl | rfl | rfl | rfl | rfl | rfl | rfl | rfl | rfl | rfl | rfl | rfl | rfl | rfl | rfl | rfl | rfl
 · exact apply_4 v a b c n wa wb wc hfit ha hb hc w
 · exact apply_5 v a b c n wa wb wc hfit ha hb hc w
 · exact apply_6 v a b c n wa wb wc hfit ha hb hc w
 · exact apply_7 v a b c n wa wb wc hfit ha hb hc w
 · exact apply_8 v a b c n wa wb wc hfit ha hb hc w
 · exact apply_9 v a b c n wa wb wc hfit ha hb hc w
 · exact apply_10 v a b c n wa wb wc hfit ha hb hc w
 · exact apply_11 v a b c n wa wb wc hfit ha hb hc w
 · exact apply_12 v a b c n wa wb wc hfit ha hb hc w
 · exact apply_13 v a b c n wa wb wc hfit ha hb hc w
 · exact apply_14 v a b c n wa wb wc hfit ha hb hc w
 · exact apply_15 v a b c n wa wb wc hfit ha hb hc w
 · exact apply_16 v a b c n wa wb wc hfit ha hb hc w
 · exact apply_17 v a b c n wa wb wc hfit ha hb hc w
 · exact apply_18 v a b c n wa wb wc hfit ha hb hc w
 · exact apply_19 v a b c n wa wb wc hfit ha hb hc w
 · exact apply_20 v a b c n wa wb wc hfit ha hb hc w
 · exact apply_21 v a b c n wa wb wc hfit ha hb hc w
 · exact apply_22 v a b c n wa wb wc hfit ha hb hc w
 · exact apply_23 v a b c n wa wb wc hfit ha hb hc w
end Go.Proofs.YtjhkecnnhddhbaaGreatDoor.Ev

namespace Go.Proofs.YtjhkecnnhddhbaaGreatDoor.Ev
open Go.RowKit
set_option maxRecDepth 100000
theorem bthen {w w1 w2 : World} (h : Below w.heap.size w w1) (k : Below w1.heap.size w1 w2) : Below w.heap.size w w2 := h.trans (k.mono h.size)
end Go.Proofs.YtjhkecnnhddhbaaGreatDoor.Ev

namespace Go.Proofs.YtjhkecnnhddhbaaGreatDoor.Ev
open Go.RowKit
set_option maxRecDepth 100000
structure Nd where
 kind : Int
 width : Int
 a : Int
 b : Int
 c : Int
 n : Int
def leafE (x : Nd) : Int :=
 if x.kind = 1 ∧ isW x.n x.width = false then 3 else if x.kind ≠ 1 ∧ x.n ≠ 0 then 1 else if x.a ≠ 0 ∨ x.b ≠ 0 ∨ x.c ≠ 0 then 1 else 0
theorem isKind_any (x : Int) (w : World) :
   Calls Tryz.prog 105 #[.int .i64 x] w fun e w' => e = .returned (.bool (btw x 1 23)) ∧ w' = w := by
 go_enter Tryz.func105, Tryz.ntmps105
 go_wp2
 all_goals
   go_ret
   exact ⟨ret_bool (by rw [Bool.eq_iff_iff, btw_true]; simp; try omega), rfl⟩
set_option maxHeartbeats 1000000 in
theorem leaf_any (k v a b c n : Int) (hv : 0 ≤ v ∧ v ≤ 8) (w : World) :
   Calls Tryz.prog 109 #[.agg #[.int .i64 k, .int .i64 v, .int .i64 a, .int .i64 b, .int .i64 c, .int .i64 n]] w fun e w' => e = .returned (.int .i64 (leafE ⟨k, v, a, b, c, n⟩)) ∧ Below w.heap.size w w' := by
 go_enter Tryz.func109, Tryz.ntmps109
 go_wp2_with (go_at_call 133; refine (isWord_any _ _ hv _).mono ?_; rintro e w' ⟨rfl, rfl⟩)
 all_goals
   go_ret
   refine ⟨ret_int ?_, bal (Below.refl _ _) _⟩
   go_light
   unfold leafE
   simp_all
def NodesAt (w : World) (p : Option Addr) (ns : List Nd) : Prop :=
 0 < ns.length → ∃ b off, p = some ⟨b, off, none⟩ ∧ ∀ (i : Nat) (h : i < ns.length),
   w.cell? ⟨b, off + i * 6, none⟩ = some (.int .i64 ns[i].kind) ∧ w.cell? ⟨b, off + i * 6 + 1, none⟩ = some (.int .i64 ns[i].width) ∧
   w.cell? ⟨b, off + i * 6 + 2, none⟩ = some (.int .i64 ns[i].a) ∧ w.cell? ⟨b, off + i * 6 + 3, none⟩ = some (.int .i64 ns[i].b) ∧
   w.cell? ⟨b, off + i * 6 + 4, none⟩ = some (.int .i64 ns[i].c) ∧ w.cell? ⟨b, off + i * 6 + 5, none⟩ = some (.int .i64 ns[i].n)
def wdOf (ns : List Nd) (x : Int) : Int := match ns[x.toNat]? with | some y => y.width | none => 0
def wds (ns : List Nd) (t i x : Int) : Int := if i < t then wdOf ns x else 0
def badOn (t i num x : Int) : Bool := if i < t then (decide (x < 0) || decide (num ≤ x)) else x != 0
def opE (ns : List Nd) (i : Nat) (x : Nd) : Int :=
 if badOn (takes x.kind) 0 i x.a || badOn (takes x.kind) 1 i x.b || badOn (takes x.kind) 2 i x.c then 4
 else fitE x.kind x.width x.n (wds ns (takes x.kind) 0 x.a) (wds ns (takes x.kind) 1 x.b) (wds ns (takes x.kind) 2 x.c)
theorem wd_cell {w : World} {b off : Nat} {ns : List Nd} (hc : ∀ (i : Nat) (h : i < ns.length),
   w.cell? ⟨b, off + i * 6, none⟩ = some (.int .i64 ns[i].kind) ∧ w.cell? ⟨b, off + i * 6 + 1, none⟩ = some (.int .i64 ns[i].width) ∧
   w.cell? ⟨b, off + i * 6 + 2, none⟩ = some (.int .i64 ns[i].a) ∧ w.cell? ⟨b, off + i * 6 + 3, none⟩ = some (.int .i64 ns[i].b) ∧
   w.cell? ⟨b, off + i * 6 + 4, none⟩ = some (.int .i64 ns[i].c) ∧ w.cell? ⟨b, off + i * 6 + 5, none⟩ = some (.int .i64 ns[i].n)) (x : Int) (h0 : 0 ≤ x) (h1 : x < ns.length) :
   w.cell? ⟨b, off + x.toNat * 6 + 1, none⟩ = some (.int .i64 (wdOf ns x)) := by
 have := (hc x.toNat (by omega)).2.1
 rw [this]
 unfold wdOf
 rw [List.getElem?_eq_getElem (by omega)]
theorem past2 {w : World} {p : Addr} {v : Value} (h : w.cell? p = some v) (o1 o2 : Obj) : ((w.alloc o1).alloc o2).cell? p = some v := by
 exact cell_later (bal (bal (Below.refl _ _) o1) o2) h
theorem opE_bad0 {ns : List Nd} {i : Nat} {k v x y z n t : Int} (hk : takes k = t) (h : badOn t 0 i x = true) : opE ns i ⟨k, v, x, y, z, n⟩ = 4 := by
 simp [opE, hk, h]
theorem opE_bad1 {ns : List Nd} {i : Nat} {k v x y z n t : Int} (hk : takes k = t) (h : badOn t 1 i y = true) : opE ns i ⟨k, v, x, y, z, n⟩ = 4 := by
 simp [opE, hk, h]
theorem opE_bad2 {ns : List Nd} {i : Nat} {k v x y z n t : Int} (hk : takes k = t) (h : badOn t 2 i z = true) : opE ns i ⟨k, v, x, y, z, n⟩ = 4 := by
 simp [opE, hk, h]
set_option maxRecDepth 100000 in
set_option maxHeartbeats 4000000 in
theorem checkOp_1 (p : Option Addr) (cap : Nat) (ns : List Nd) (hl : ns.length ≤ 80) (i : Nat) (hi : i < ns.length) (w : World) (hN : NodesAt w p ns) (hk : takes ns[i].kind = 1) :
   Calls Tryz.prog 108 #[.slice p ns.length cap, .int .i64 i] w fun e w' => e = .returned (.int .i64 (opE ns i ns[i])) ∧ Below w.heap.size w w' := by
 obtain ⟨b, off, rfl, hc⟩ := hN (by omega)
 obtain ⟨c0, c1, c2, c3, c4, c5⟩ := hc i hi
 have hi2 : (i : Int) < (ns.length : Int) := by omega
 have HW : Hid _ := wd_cell hc
 clear hN hc
 generalize ns[i] = nd at *
 obtain ⟨k, v, x, y, z, n⟩ := nd
 simp only at *
 have hwd := words_any k
 rw [hk] at hwd
 have Hwd : Hid _ := hwd
 have Hk : Hid _ := hk
 clear hwd hk
 have i0 : ∀ w : World, (Instr.index 164 (arr3 x y z) (.int .i64 0)).run Tryz.prog w = .ok (.int .i64 x) w := fun _ => by kernel_rfl
 have i1 : ∀ w : World, (Instr.index 164 (arr3 x y z) (.int .i64 1)).run Tryz.prog w = .ok (.int .i64 y) w := fun _ => by kernel_rfl
 have i2 : ∀ w : World, (Instr.index 164 (arr3 x y z) (.int .i64 2)).run Tryz.prog w = .ok (.int .i64 z) w := fun _ => by kernel_rfl
 go_enter Tryz.func108, Tryz.ntmps108
 go_wp2_with (go_at_call 131; refine (Hwd.out _).mono ?_; rintro e w' ⟨rfl, rfl⟩)
 refine wp_loop_rounds 4 ?_
 rw [rounds_succ]
 by_cases n0 : x < 0
 · have HE : Hid (opE ns i ⟨k, v, x, y, z, n⟩ = 4) := opE_bad0 Hk.out (by simp [badOn]; omega)
   go_wp2
   go_ret
   exact ⟨ret_int HE.out.symm, by repeat (first | exact Below.refl _ _ | refine bal ?_ _)⟩
 by_cases m0 : (i : Int) ≤ x
 · have HE : Hid (opE ns i ⟨k, v, x, y, z, n⟩ = 4) := opE_bad0 Hk.out (by simp [badOn]; omega)
   go_wp2
   go_ret
   exact ⟨ret_int HE.out.symm, by repeat (first | exact Below.refl _ _ | refine bal ?_ _)⟩
 have d0 := past2 (HW.out x (by omega) (by omega))
 have G0 : badOn 1 0 i x = false := by simp [badOn]; omega
 have HG0 : Hid _ := G0
 clear G0
 go_wp2
 rw [rounds_succ]
 by_cases n1 : y = 0
 rotate_left
 · have e1 : (y != 0) = true := by simp [n1]
   have HE : Hid (opE ns i ⟨k, v, x, y, z, n⟩ = 4) := opE_bad1 Hk.out (by simp [badOn]; omega)
   go_wp2
   go_ret
   exact ⟨ret_int HE.out.symm, by repeat (first | exact Below.refl _ _ | refine bal ?_ _)⟩
 have e1 : (y != 0) = false := by simp [n1]
 have G1 : badOn 1 1 i y = false := by simp [badOn]; omega
 have HG1 : Hid _ := G1
 clear n1 G1
 go_wp2
 rw [rounds_succ]
 by_cases n2 : z = 0
 rotate_left
 · have e2 : (z != 0) = true := by simp [n2]
   have HE : Hid (opE ns i ⟨k, v, x, y, z, n⟩ = 4) := opE_bad2 Hk.out (by simp [badOn]; omega)
   go_wp2
   go_ret
   exact ⟨ret_int HE.out.symm, by repeat (first | exact Below.refl _ _ | refine bal ?_ _)⟩
 have e2 : (z != 0) = false := by simp [n2]
 have G2 : badOn 1 2 i z = false := by simp [badOn]; omega
 have HG2 : Hid _ := G2
 clear n2 G2
 go_wp2
 rw [rounds_succ]
 have HE : Hid (opE ns i ⟨k, v, x, y, z, n⟩ = fitE k v n (wdOf ns x) 0 0) := by
   unfold opE
   simp only [Hk.out, HG0.out, HG1.out, HG2.out, Bool.or_self, Bool.false_eq_true, if_false, wds]
   rfl
 go_wp2_with (go_at_call 132; refine (fit_any _ _ _ _ _ _ _).mono ?_; rintro e w1 ⟨rfl, hb1⟩)
 go_ret
 exact ⟨ret_int HE.out.symm, bthen (by repeat (first | exact Below.refl _ _ | refine bal ?_ _)) hb1⟩
set_option maxRecDepth 100000 in
set_option maxHeartbeats 4000000 in
theorem checkOp_2 (p : Option Addr) (cap : Nat) (ns : List Nd) (hl : ns.length ≤ 80) (i : Nat) (hi : i < ns.length) (w : World) (hN : NodesAt w p ns) (hk : takes ns[i].kind = 2) :
   Calls Tryz.prog 108 #[.slice p ns.length cap, .int .i64 i] w fun e w' => e = .returned (.int .i64 (opE ns i ns[i])) ∧ Below w.heap.size w w' := by
 obtain ⟨b, off, rfl, hc⟩ := hN (by omega)
 obtain ⟨c0, c1, c2, c3, c4, c5⟩ := hc i hi
 have hi2 : (i : Int) < (ns.length : Int) := by omega
 have HW : Hid _ := wd_cell hc
 clear hN hc
 generalize ns[i] = nd at *
 obtain ⟨k, v, x, y, z, n⟩ := nd
 simp only at *
 have hwd := words_any k
 rw [hk] at hwd
 have Hwd : Hid _ := hwd
 have Hk : Hid _ := hk
 clear hwd hk
 have i0 : ∀ w : World, (Instr.index 164 (arr3 x y z) (.int .i64 0)).run Tryz.prog w = .ok (.int .i64 x) w := fun _ => by kernel_rfl
 have i1 : ∀ w : World, (Instr.index 164 (arr3 x y z) (.int .i64 1)).run Tryz.prog w = .ok (.int .i64 y) w := fun _ => by kernel_rfl
 have i2 : ∀ w : World, (Instr.index 164 (arr3 x y z) (.int .i64 2)).run Tryz.prog w = .ok (.int .i64 z) w := fun _ => by kernel_rfl
 go_enter Tryz.func108, Tryz.ntmps108
 go_wp2_with (go_at_call 131; refine (Hwd.out _).mono ?_; rintro e w' ⟨rfl, rfl⟩)
 refine wp_loop_rounds 4 ?_
 rw [rounds_succ]
 by_cases n0 : x < 0
 · have HE : Hid (opE ns i ⟨k, v, x, y, z, n⟩ = 4) := opE_bad0 Hk.out (by simp [badOn]; omega)
   go_wp2
   go_ret
   exact ⟨ret_int HE.out.symm, by repeat (first | exact Below.refl _ _ | refine bal ?_ _)⟩
 by_cases m0 : (i : Int) ≤ x
 · have HE : Hid (opE ns i ⟨k, v, x, y, z, n⟩ = 4) := opE_bad0 Hk.out (by simp [badOn]; omega)
   go_wp2
   go_ret
   exact ⟨ret_int HE.out.symm, by repeat (first | exact Below.refl _ _ | refine bal ?_ _)⟩
 have d0 := past2 (HW.out x (by omega) (by omega))
 have G0 : badOn 2 0 i x = false := by simp [badOn]; omega
 have HG0 : Hid _ := G0
 clear G0
 go_wp2
 rw [rounds_succ]
 by_cases n1 : y < 0
 · have HE : Hid (opE ns i ⟨k, v, x, y, z, n⟩ = 4) := opE_bad1 Hk.out (by simp [badOn]; omega)
   go_wp2
   go_ret
   exact ⟨ret_int HE.out.symm, by repeat (first | exact Below.refl _ _ | refine bal ?_ _)⟩
 by_cases m1 : (i : Int) ≤ y
 · have HE : Hid (opE ns i ⟨k, v, x, y, z, n⟩ = 4) := opE_bad1 Hk.out (by simp [badOn]; omega)
   go_wp2
   go_ret
   exact ⟨ret_int HE.out.symm, by repeat (first | exact Below.refl _ _ | refine bal ?_ _)⟩
 have d1 := past2 (HW.out y (by omega) (by omega))
 have G1 : badOn 2 1 i y = false := by simp [badOn]; omega
 have HG1 : Hid _ := G1
 clear G1
 go_wp2
 rw [rounds_succ]
 by_cases n2 : z = 0
 rotate_left
 · have e2 : (z != 0) = true := by simp [n2]
   have HE : Hid (opE ns i ⟨k, v, x, y, z, n⟩ = 4) := opE_bad2 Hk.out (by simp [badOn]; omega)
   go_wp2
   go_ret
   exact ⟨ret_int HE.out.symm, by repeat (first | exact Below.refl _ _ | refine bal ?_ _)⟩
 have e2 : (z != 0) = false := by simp [n2]
 have G2 : badOn 2 2 i z = false := by simp [badOn]; omega
 have HG2 : Hid _ := G2
 clear n2 G2
 go_wp2
 rw [rounds_succ]
 have HE : Hid (opE ns i ⟨k, v, x, y, z, n⟩ = fitE k v n (wdOf ns x) (wdOf ns y) 0) := by
   unfold opE
   simp only [Hk.out, HG0.out, HG1.out, HG2.out, Bool.or_self, Bool.false_eq_true, if_false, wds]
   rfl
 go_wp2_with (go_at_call 132; refine (fit_any _ _ _ _ _ _ _).mono ?_; rintro e w1 ⟨rfl, hb1⟩)
 go_ret
 exact ⟨ret_int HE.out.symm, bthen (by repeat (first | exact Below.refl _ _ | refine bal ?_ _)) hb1⟩
set_option maxRecDepth 100000 in
set_option maxHeartbeats 4000000 in
theorem checkOp_3 (p : Option Addr) (cap : Nat) (ns : List Nd) (hl : ns.length ≤ 80) (i : Nat) (hi : i < ns.length) (w : World) (hN : NodesAt w p ns) (hk : takes ns[i].kind = 3) :
   Calls Tryz.prog 108 #[.slice p ns.length cap, .int .i64 i] w fun e w' => e = .returned (.int .i64 (opE ns i ns[i])) ∧ Below w.heap.size w w' := by
 obtain ⟨b, off, rfl, hc⟩ := hN (by omega)
 obtain ⟨c0, c1, c2, c3, c4, c5⟩ := hc i hi
 have hi2 : (i : Int) < (ns.length : Int) := by omega
 have HW : Hid _ := wd_cell hc
 clear hN hc
 generalize ns[i] = nd at *
 obtain ⟨k, v, x, y, z, n⟩ := nd
 simp only at *
 have hwd := words_any k
 rw [hk] at hwd
 have Hwd : Hid _ := hwd
 have Hk : Hid _ := hk
 clear hwd hk
 have i0 : ∀ w : World, (Instr.index 164 (arr3 x y z) (.int .i64 0)).run Tryz.prog w = .ok (.int .i64 x) w := fun _ => by kernel_rfl
 have i1 : ∀ w : World, (Instr.index 164 (arr3 x y z) (.int .i64 1)).run Tryz.prog w = .ok (.int .i64 y) w := fun _ => by kernel_rfl
 have i2 : ∀ w : World, (Instr.index 164 (arr3 x y z) (.int .i64 2)).run Tryz.prog w = .ok (.int .i64 z) w := fun _ => by kernel_rfl
 go_enter Tryz.func108, Tryz.ntmps108
 go_wp2_with (go_at_call 131; refine (Hwd.out _).mono ?_; rintro e w' ⟨rfl, rfl⟩)
 refine wp_loop_rounds 4 ?_
 rw [rounds_succ]
 by_cases n0 : x < 0
 · have HE : Hid (opE ns i ⟨k, v, x, y, z, n⟩ = 4) := opE_bad0 Hk.out (by simp [badOn]; omega)
   go_wp2
   go_ret
   exact ⟨ret_int HE.out.symm, by repeat (first | exact Below.refl _ _ | refine bal ?_ _)⟩
 by_cases m0 : (i : Int) ≤ x
 · have HE : Hid (opE ns i ⟨k, v, x, y, z, n⟩ = 4) := opE_bad0 Hk.out (by simp [badOn]; omega)
   go_wp2
   go_ret
   exact ⟨ret_int HE.out.symm, by repeat (first | exact Below.refl _ _ | refine bal ?_ _)⟩
 have d0 := past2 (HW.out x (by omega) (by omega))
 have G0 : badOn 3 0 i x = false := by simp [badOn]; omega
 have HG0 : Hid _ := G0
 clear G0
 go_wp2
 rw [rounds_succ]
 by_cases n1 : y < 0
 · have HE : Hid (opE ns i ⟨k, v, x, y, z, n⟩ = 4) := opE_bad1 Hk.out (by simp [badOn]; omega)
   go_wp2
   go_ret
   exact ⟨ret_int HE.out.symm, by repeat (first | exact Below.refl _ _ | refine bal ?_ _)⟩
 by_cases m1 : (i : Int) ≤ y
 · have HE : Hid (opE ns i ⟨k, v, x, y, z, n⟩ = 4) := opE_bad1 Hk.out (by simp [badOn]; omega)
   go_wp2
   go_ret
   exact ⟨ret_int HE.out.symm, by repeat (first | exact Below.refl _ _ | refine bal ?_ _)⟩
 have d1 := past2 (HW.out y (by omega) (by omega))
 have G1 : badOn 3 1 i y = false := by simp [badOn]; omega
 have HG1 : Hid _ := G1
 clear G1
 go_wp2
 rw [rounds_succ]
 by_cases n2 : z < 0
 · have HE : Hid (opE ns i ⟨k, v, x, y, z, n⟩ = 4) := opE_bad2 Hk.out (by simp [badOn]; omega)
   go_wp2
   go_ret
   exact ⟨ret_int HE.out.symm, by repeat (first | exact Below.refl _ _ | refine bal ?_ _)⟩
 by_cases m2 : (i : Int) ≤ z
 · have HE : Hid (opE ns i ⟨k, v, x, y, z, n⟩ = 4) := opE_bad2 Hk.out (by simp [badOn]; omega)
   go_wp2
   go_ret
   exact ⟨ret_int HE.out.symm, by repeat (first | exact Below.refl _ _ | refine bal ?_ _)⟩
 have d2 := past2 (HW.out z (by omega) (by omega))
 have G2 : badOn 3 2 i z = false := by simp [badOn]; omega
 have HG2 : Hid _ := G2
 clear G2
 go_wp2
 rw [rounds_succ]
 have HE : Hid (opE ns i ⟨k, v, x, y, z, n⟩ = fitE k v n (wdOf ns x) (wdOf ns y) (wdOf ns z)) := by
   unfold opE
   simp only [Hk.out, HG0.out, HG1.out, HG2.out, Bool.or_self, Bool.false_eq_true, if_false, wds]
   rfl
 go_wp2_with (go_at_call 132; refine (fit_any _ _ _ _ _ _ _).mono ?_; rintro e w1 ⟨rfl, hb1⟩)
 go_ret
 exact ⟨ret_int HE.out.symm, bthen (by repeat (first | exact Below.refl _ _ | refine bal ?_ _)) hb1⟩
end Go.Proofs.YtjhkecnnhddhbaaGreatDoor.Ev
