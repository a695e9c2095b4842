/- What comes of a model: what an operation makes of the words ahead of it. -/
import Derived.Test.YtjhkecnnhddhbaaGreatDoorEbM
namespace Go.Proofs.YtjhkecnnhddhbaaGreatDoor.Ev
open Go.RowKit
set_option maxRecDepth 100000
def IRow (w : World) (g : Nat) (l : List Int) : Prop := ∀ (j : Nat) (h : j < l.length), w.cell? ⟨g, j, none⟩ = some (.int .i64 l[j]) ∧ w.frozen? ⟨g, j, none⟩ = false
theorem IRow.later {w w1 : World} {g : Nat} {l : List Int} (h : IRow w g l) (hb : Below w.heap.size w w1) : IRow w1 g l := fun j hj =>
 ⟨cell_later hb (h j hj).1, frozen_later hb (h j hj).1 (h j hj).2⟩
theorem IRow.set {w : World} {g : Nat} {l : List Int} (h : IRow w g l) (k : Nat) (x : Int) : IRow (w.setCell ⟨g, k, none⟩ (.int .i64 x)) g (l.set k x) := by
 intro j hj
 have hj' : j < l.length := by simpa using hj
 refine ⟨?_, (World.frozen?_setCell _ _ _ _).trans (h j hj').2⟩
 by_cases e : k = j
 · subst e
   rw [World.cell?_setCell_same _ _ _ (h k hj').1]
   simp
 · rw [World.cell?_setCell_other _ _ _ _ (by simp), (h j hj').1, List.getElem_set_ne e]
theorem IRow.other {w : World} {g g2 : Nat} {l : List Int} (h : IRow w g l) (hne : ¬ g = g2) (k : Nat) (u : Value) : IRow (w.setCell ⟨g2, k, none⟩ u) g l := fun j hj =>
 ⟨keepOther hne (h j hj).1, (World.frozen?_setCell _ _ _ _).trans (h j hj).2⟩
theorem IRow.at {w : World} {g : Nat} {l : List Int} (h : IRow w g l) (x : Int) (h0 : 0 ≤ x) (h1 : x < l.length) : w.cell? ⟨g, x.toNat, none⟩ = some (.int .i64 (l.getD x.toNat 0)) := by
 rw [(h x.toNat (by omega)).1, getD_at]
theorem ints_other {w : World} {h g2 k : Nat} {l : List Int} {u : Value} (hI : IntsAt w (some ⟨h, 0, none⟩) l) (hne : ¬ h = g2) : IntsAt (w.setCell ⟨g2, k, none⟩ u) (some ⟨h, 0, none⟩) l := by
 intro h0
 obtain ⟨b, off, hp, hc⟩ := hI h0
 obtain ⟨rfl, rfl⟩ : h = b ∧ 0 = off := by injection hp with hp; injection hp with h1 h2; exact ⟨h1, h2⟩
 exact ⟨h, 0, rfl, fun i hi => keepOther hne (hc i hi)⟩
def putL (f : Int → Int) (L : List Int) (k : Nat) : List Int := (L.take k).map f ++ List.replicate (3 - k) 0
theorem putL_len {f : Int → Int} {L : List Int} {k : Nat} (hL : L.length ≤ 3) (hk : k ≤ L.length) : (putL f L k).length = 3 := by
 unfold putL; simp; omega
theorem putL_set {f : Int → Int} {L : List Int} {k : Nat} (hL : L.length ≤ 3) (hk : k < L.length) : (putL f L k).set k (f L[k]) = putL f L (k + 1) := by
 unfold putL
 have e1 : 3 - k = (3 - (k + 1)) + 1 := by omega
 have e2 : ((L.take k).map f).length = k := by simp; omega
 rw [e1, List.replicate_succ, List.set_append_right _ _ (by omega), e2, Nat.sub_self, List.set_cons_zero, List.take_succ_eq_append_getElem hk, List.map_append]
 simp
theorem putL_all (x : Nd) (f : Int → Int) : putL f (opsL x) (opsL x).length = [if 0 < takes x.kind then f x.a else 0, if 1 < takes x.kind then f x.b else 0, if 2 < takes x.kind then f x.c else 0] := by
 unfold putL
 rw [List.take_length]
 unfold opsL
 rcases takes_four x.kind with h | h | h | h <;> rw [h] <;> rfl
set_option maxRecDepth 100000 in
set_option maxHeartbeats 2000000 in
theorem operandsF_at (k v x y z n : Int) (t : Nat) (ht : takes k = t) (h4 : t = 0 ∨ t = 1 ∨ t = 2 ∨ t = 3) (w : World) :
   Calls Tryz.prog 123 #[.agg #[.int .i64 k, .int .i64 v, .int .i64 x, .int .i64 y, .int .i64 z, .int .i64 n]] w fun e w' =>
     ∃ g, w.heap.size ≤ g ∧ e = .returned (.slice (some ⟨g, 0, none⟩) t 3) ∧ IntsAt w' (some ⟨g, 0, none⟩) ([x, y, z].take t) ∧ Below w.heap.size w w' := by
 have hw := words_any k
 rw [ht] at hw
 have Hw : Hid _ := hw
 clear hw ht
 rcases h4 with rfl | rfl | rfl | rfl
 all_goals
   go_enter Tryz.func123, Tryz.ntmps123
   go_wp2
   have z0 : (w.alloc (.cells #[.int .i64 k, .int .i64 v, .int .i64 x, .int .i64 y, .int .i64 z, .int .i64 n] 93)).cell? ⟨w.heap.size, 0, none⟩ = some (.int .i64 k) := by simp [go_sem]
   have z2 : (w.alloc (.cells #[.int .i64 k, .int .i64 v, .int .i64 x, .int .i64 y, .int .i64 z, .int .i64 n] 93)).cell? ⟨w.heap.size, 2, none⟩ = some (.int .i64 x) := by simp [go_sem]
   have z3 : (w.alloc (.cells #[.int .i64 k, .int .i64 v, .int .i64 x, .int .i64 y, .int .i64 z, .int .i64 n] 93)).cell? ⟨w.heap.size, 3, none⟩ = some (.int .i64 y) := by simp [go_sem]
   have z4 : (w.alloc (.cells #[.int .i64 k, .int .i64 v, .int .i64 x, .int .i64 y, .int .i64 z, .int .i64 n] 93)).cell? ⟨w.heap.size, 4, none⟩ = some (.int .i64 z) := by simp [go_sem]
   have hbx : Below w.heap.size w (w.alloc (.cells #[.int .i64 k, .int .i64 v, .int .i64 x, .int .i64 y, .int .i64 z, .int .i64 n] 93)) := bal (Below.refl _ _) _
   have hgt : w.heap.size < (w.alloc (.cells #[.int .i64 k, .int .i64 v, .int .i64 x, .int .i64 y, .int .i64 z, .int .i64 n] 93)).heap.size := by simp
   generalize w.alloc (.cells #[.int .i64 k, .int .i64 v, .int .i64 x, .int .i64 y, .int .i64 z, .int .i64 n] 93) = wb at *
   go_region_held3 (fun w' => w'.cell? ⟨w.heap.size, 0, none⟩ = some (.int .i64 k) ∧ w'.cell? ⟨w.heap.size, 2, none⟩ = some (.int .i64 x) ∧ w'.cell? ⟨w.heap.size, 3, none⟩ = some (.int .i64 y) ∧ w'.cell? ⟨w.heap.size, 4, none⟩ = some (.int .i64 z)) (go_keep) ((go_at_call 131; refine (Hw.out _).mono ?_; rintro e w' ⟨rfl, rfl⟩))
   all_goals
     go_wp2
     go_ret
     refine ⟨wb.heap.size, Nat.le_of_lt hgt, rfl, ints3 _ (by omega) (by simp [go_sem]) (by simp [go_sem]) (by simp [go_sem]), ?_⟩
     exact (bal hbx _).drew
theorem operandsF_any (x : Nd) (w : World) :
   Calls Tryz.prog 123 #[.agg #[.int .i64 x.kind, .int .i64 x.width, .int .i64 x.a, .int .i64 x.b, .int .i64 x.c, .int .i64 x.n]] w fun e w' =>
     ∃ g, w.heap.size ≤ g ∧ e = .returned (.slice (some ⟨g, 0, none⟩) (opsL x).length 3) ∧ IntsAt w' (some ⟨g, 0, none⟩) (opsL x) ∧ Below w.heap.size w w' := by
 obtain ⟨h1, h2⟩ := takes_nat x.kind
 refine (operandsF_at x.kind x.width x.a x.b x.c x.n (takes x.kind).toNat h1 h2 w).mono ?_
 rintro e w' ⟨g, hg, rfl, hI, hb⟩
 exact ⟨g, hg, by rw [opsL_len], hI, hb⟩
set_option maxRecDepth 100000 in
set_option maxHeartbeats 4000000 in
theorem operate_any (m : Mv) (ns : List Nd) (hl : ns.length ≤ 80) (x : Nd) (k : Nat) (hk : k < ns.length) (hops : ∀ y ∈ opsL x, 0 ≤ y ∧ y < k) (cur : List Int) (hcur : cur.length = ns.length) (g : Nat) (w : World) (hN : NodesAt w m.a0 ns) (hR : IRow w g cur)
   (hfit : fitE x.kind x.width x.n (wds ns (takes x.kind) 0 x.a) (wds ns (takes x.kind) 1 x.b) (wds ns (takes x.kind) 2 x.c) = 0)
   (ha : isW (opv cur (takes x.kind) 0 x.a) (wds ns (takes x.kind) 0 x.a) = true) (hb : isW (opv cur (takes x.kind) 1 x.b) (wds ns (takes x.kind) 1 x.b) = true) (hc : isW (opv cur (takes x.kind) 2 x.c) (wds ns (takes x.kind) 2 x.c) = true) :
   Calls Tryz.prog 165 #[m.val ns.length, .agg #[.int .i64 x.kind, .int .i64 x.width, .int .i64 x.a, .int .i64 x.b, .int .i64 x.c, .int .i64 x.n], .slice (some ⟨g, 0, none⟩) ns.length ns.length] w fun e w' =>
     e = .returned (.int .i64 (madeE x.kind x.width (opv cur (takes x.kind) 0 x.a) (opv cur (takes x.kind) 1 x.b) (opv cur (takes x.kind) 2 x.c) x.n (wds ns (takes x.kind) 0 x.a) (wds ns (takes x.kind) 1 x.b))) ∧ Below w.heap.size w w' := by
 obtain ⟨a0, c0, a1, l1, c1, a2, l2, c2, a3, l3, c3, a4, l4, c4⟩ := m
 simp only at hN
 have HAP := hide (fun w => apply_right x.kind x.width (opv cur (takes x.kind) 0 x.a) (opv cur (takes x.kind) 1 x.b) (opv cur (takes x.kind) 2 x.c) x.n (wds ns (takes x.kind) 0 x.a) (wds ns (takes x.kind) 1 x.b) (wds ns (takes x.kind) 2 x.c) hfit ha hb hc w)
 have HGv : Hid (putL (fun y => cur.getD y.toNat 0) (opsL x) (opsL x).length = [opv cur (takes x.kind) 0 x.a, opv cur (takes x.kind) 1 x.b, opv cur (takes x.kind) 2 x.c]) := putL_all x _
 have HGw : Hid (putL (fun y => wdOf ns y) (opsL x) (opsL x).length = [wds ns (takes x.kind) 0 x.a, wds ns (takes x.kind) 1 x.b, wds ns (takes x.kind) 2 x.c]) := putL_all x _
 have HOI := hide (fun w => operandsF_any x w)
 have HLo : Hid ((opsL x).length ≤ 3) := by rw [opsL_len]; have := takes_four x.kind; simp only [Hid]; omega
 have HOps := hide hops
 have HN := hide hN
 have HR := hide hR
 have HC := hide hcur
 clear hfit ha hb hc hN hR hops hcur
 generalize madeE x.kind x.width (opv cur (takes x.kind) 0 x.a) (opv cur (takes x.kind) 1 x.b) (opv cur (takes x.kind) 2 x.c) x.n (wds ns (takes x.kind) 0 x.a) (wds ns (takes x.kind) 1 x.b) = made at *
 generalize opv cur (takes x.kind) 0 x.a = va at *
 generalize opv cur (takes x.kind) 1 x.b = vb at *
 generalize opv cur (takes x.kind) 2 x.c = vc at *
 generalize wds ns (takes x.kind) 0 x.a = wa at *
 generalize wds ns (takes x.kind) 1 x.b = wb at *
 generalize wds ns (takes x.kind) 2 x.c = wc at *
 generalize opsL x = L at *
 obtain ⟨kd, v, xa, xb, xc, n⟩ := x
 simp only at *
 have hb4 : Below w.heap.size w ((((w.alloc (.cells (Mv.cells ⟨a0, c0, a1, l1, c1, a2, l2, c2, a3, l3, c3, a4, l4, c4⟩ ns.length) 65)).alloc (.cells #[.int .i64 kd, .int .i64 v, .int .i64 xa, .int .i64 xb, .int .i64 xc, .int .i64 n] 93)).alloc (.cells #[.int .i64 0, .int .i64 0, .int .i64 0] 164)).alloc (.cells #[.int .i64 0, .int .i64 0, .int .i64 0] 164)) := bal (bal (bal (bal (Below.refl _ _) _) _) _) _
 have q0 : ((((w.alloc (.cells (Mv.cells ⟨a0, c0, a1, l1, c1, a2, l2, c2, a3, l3, c3, a4, l4, c4⟩ ns.length) 65)).alloc (.cells #[.int .i64 kd, .int .i64 v, .int .i64 xa, .int .i64 xb, .int .i64 xc, .int .i64 n] 93)).alloc (.cells #[.int .i64 0, .int .i64 0, .int .i64 0] 164)).alloc (.cells #[.int .i64 0, .int .i64 0, .int .i64 0] 164)).cell? ⟨w.heap.size, 0, none⟩ = some (.slice a0 ns.length c0) := by simp [go_sem]
 have t0 : ((((w.alloc (.cells (Mv.cells ⟨a0, c0, a1, l1, c1, a2, l2, c2, a3, l3, c3, a4, l4, c4⟩ ns.length) 65)).alloc (.cells #[.int .i64 kd, .int .i64 v, .int .i64 xa, .int .i64 xb, .int .i64 xc, .int .i64 n] 93)).alloc (.cells #[.int .i64 0, .int .i64 0, .int .i64 0] 164)).alloc (.cells #[.int .i64 0, .int .i64 0, .int .i64 0] 164)).cell? ⟨w.heap.size + 1, 0, none⟩ = some (.int .i64 kd) := by simp [go_sem]
 have t1 : ((((w.alloc (.cells (Mv.cells ⟨a0, c0, a1, l1, c1, a2, l2, c2, a3, l3, c3, a4, l4, c4⟩ ns.length) 65)).alloc (.cells #[.int .i64 kd, .int .i64 v, .int .i64 xa, .int .i64 xb, .int .i64 xc, .int .i64 n] 93)).alloc (.cells #[.int .i64 0, .int .i64 0, .int .i64 0] 164)).alloc (.cells #[.int .i64 0, .int .i64 0, .int .i64 0] 164)).cell? ⟨w.heap.size + 1, 1, none⟩ = some (.int .i64 v) := by simp [go_sem]
 have t5 : ((((w.alloc (.cells (Mv.cells ⟨a0, c0, a1, l1, c1, a2, l2, c2, a3, l3, c3, a4, l4, c4⟩ ns.length) 65)).alloc (.cells #[.int .i64 kd, .int .i64 v, .int .i64 xa, .int .i64 xb, .int .i64 xc, .int .i64 n] 93)).alloc (.cells #[.int .i64 0, .int .i64 0, .int .i64 0] 164)).alloc (.cells #[.int .i64 0, .int .i64 0, .int .i64 0] 164)).cell? ⟨w.heap.size + 1, 5, none⟩ = some (.int .i64 n) := by simp [go_sem]
 have HG0 : Hid (IRow ((((w.alloc (.cells (Mv.cells ⟨a0, c0, a1, l1, c1, a2, l2, c2, a3, l3, c3, a4, l4, c4⟩ ns.length) 65)).alloc (.cells #[.int .i64 kd, .int .i64 v, .int .i64 xa, .int .i64 xb, .int .i64 xc, .int .i64 n] 93)).alloc (.cells #[.int .i64 0, .int .i64 0, .int .i64 0] 164)).alloc (.cells #[.int .i64 0, .int .i64 0, .int .i64 0] 164)) (w.heap.size + 1 + 1) (putL (fun y => cur.getD y.toNat 0) L 0)) := by
   intro j hj
   match j, hj with
   | 0, _ => simp [go_sem, putL]
   | 1, _ => simp [go_sem, putL]
   | 2, _ => simp [go_sem, putL]
 have HW0 : Hid (IRow ((((w.alloc (.cells (Mv.cells ⟨a0, c0, a1, l1, c1, a2, l2, c2, a3, l3, c3, a4, l4, c4⟩ ns.length) 65)).alloc (.cells #[.int .i64 kd, .int .i64 v, .int .i64 xa, .int .i64 xb, .int .i64 xc, .int .i64 n] 93)).alloc (.cells #[.int .i64 0, .int .i64 0, .int .i64 0] 164)).alloc (.cells #[.int .i64 0, .int .i64 0, .int .i64 0] 164)) (w.heap.size + 1 + 1 + 1) (putL (fun y => wdOf ns y) L 0)) := by
   intro j hj
   match j, hj with
   | 0, _ => simp [go_sem, putL]
   | 1, _ => simp [go_sem, putL]
   | 2, _ => simp [go_sem, putL]
 have HR4 := hide (HR.out.later hb4)
 have hg : g < w.heap.size := World.block_lt_of_cell? _ _ (HR.out 0 (by rw [HC.out]; omega)).1
 have hs4 : w.heap.size + 1 + 1 + 1 < ((((w.alloc (.cells (Mv.cells ⟨a0, c0, a1, l1, c1, a2, l2, c2, a3, l3, c3, a4, l4, c4⟩ ns.length) 65)).alloc (.cells #[.int .i64 kd, .int .i64 v, .int .i64 xa, .int .i64 xb, .int .i64 xc, .int .i64 n] 93)).alloc (.cells #[.int .i64 0, .int .i64 0, .int .i64 0] 164)).alloc (.cells #[.int .i64 0, .int .i64 0, .int .i64 0] 164)).heap.size := by simp
 have HB4 := hide hb4
 clear hb4 HR
 go_enter Tryz.func165, Tryz.ntmps165
 go_wp2_with fail
 generalize ((((w.alloc (.cells (Mv.cells ⟨a0, c0, a1, l1, c1, a2, l2, c2, a3, l3, c3, a4, l4, c4⟩ ns.length) 65)).alloc (.cells #[.int .i64 kd, .int .i64 v, .int .i64 xa, .int .i64 xb, .int .i64 xc, .int .i64 n] 93)).alloc (.cells #[.int .i64 0, .int .i64 0, .int .i64 0] 164)).alloc (.cells #[.int .i64 0, .int .i64 0, .int .i64 0] 164)) = w4 at *
 refine (HOI.out _).mono ?_
 rintro e w5 ⟨h, hh, rfl, hI, hb5⟩
 have HI := hide hI
 have HB5 := hide (bthen HB4.out hb5)
 have HG5 := hide (HG0.out.later hb5)
 have HW5 := hide (HW0.out.later hb5)
 have HR5 := hide (HR4.out.later hb5)
 have u0 := cell_later hb5 q0
 have u1 := cell_later hb5 t0
 have u2 := cell_later hb5 t1
 have u3 := cell_later hb5 t5
 clear hI hb5 HG0 HW0 HR4 q0 t0 t1 t5 HB4 HOI
 generalize hN1 : w.heap.size + 1 + 1 = N2 at *
 generalize hN2 : N2 + 1 = N3 at *
 have hne : ¬ N2 = N3 ∧ ¬ g = N2 ∧ ¬ g = N3 ∧ ¬ h = N2 ∧ ¬ h = N3 ∧ ¬ w.heap.size = N2 ∧ ¬ w.heap.size = N3 ∧ ¬ w.heap.size + 1 = N2 ∧ ¬ w.heap.size + 1 = N3 := by omega
 obtain ⟨e1, e2, e3, e4, e5, e6, e7, e8, e9⟩ := hne
 have hN2' : w.heap.size ≤ N2 := by omega
 have hN3' : w.heap.size ≤ N3 := by omega
 clear hN1 hN2 hh hs4
 go_wp2
 go_loopw [16] (fun i wr => ∃ j : Nat, j ≤ L.length ∧ i = .int .i64 j ∧ Below w.heap.size w wr ∧ Hid (IRow wr N2 (putL (fun y => cur.getD y.toNat 0) L j)) ∧ Hid (IRow wr N3 (putL (fun y => wdOf ns y) L j)) ∧ Hid (IRow wr g cur) ∧ Hid (IntsAt wr (some ⟨h, 0, none⟩) L) ∧ wr.cell? ⟨w.heap.size, 0, none⟩ = some (.slice a0 ns.length c0) ∧ wr.cell? ⟨w.heap.size + 1, 0, none⟩ = some (.int .i64 kd) ∧ wr.cell? ⟨w.heap.size + 1, 1, none⟩ = some (.int .i64 v) ∧ wr.cell? ⟨w.heap.size + 1, 5, none⟩ = some (.int .i64 n)) (fun i _ => L.length - (intOf i).toNat)
 case atStart => exact ⟨0, Nat.zero_le _, rfl, HB5.out, HG5, HW5, HR5, HI, u0, u1, u2, u3⟩
 case round =>
   clear u0 u1 u2 u3
   obtain ⟨j, hj, rfl, hbw, hG, hWd, hRw, hIL, u0, u1, u2, u3⟩ := hrel
   by_cases hlt : j < L.length
   · obtain ⟨b, off, hp, hcl⟩ := hIL.out (by omega)
     obtain ⟨rfl, rfl⟩ : h = b ∧ 0 = off := by injection hp with hp; injection hp with h1 h2; exact ⟨h1, h2⟩
     have d0 := hcl j hlt
     rw [Nat.zero_add] at d0
     obtain ⟨y0, y1⟩ := HOps.out L[j] (List.getElem_mem hlt)
     have hjl : (j : Int) < (L.length : Int) := by omega
     have hj3 : j < 3 := by have := HLo.out; omega
     have d1 := hRw.out.at L[j] y0 (by rw [HC.out]; omega)
     obtain ⟨nb, noff, rfl, hnc⟩ := HN.out (by omega)
     have hnb : nb < w.heap.size := World.block_lt_of_cell? _ _ (hnc 0 (by omega)).1
     have d2 := cell_later hbw (kd_wd hnc L[j] y0 (by omega)).2
     have f1 : ¬ nb = N2 := by omega
     have f2 : ¬ nb = N3 := by omega
     obtain ⟨g1, g2⟩ := hG.out j (by rw [putL_len HLo.out (by omega)]; omega)
     obtain ⟨g3, g4⟩ := hWd.out j (by rw [putL_len HLo.out (by omega)]; omega)
     have HS1 := hide (putL_set (f := fun y => cur.getD y.toNat 0) HLo.out hlt)
     have HS2 := hide (putL_set (f := fun y => wdOf ns y) HLo.out hlt)
     have hyn : L[j] < (ns.length : Int) := by omega
     generalize (putL (fun y => cur.getD y.toNat 0) L j)[j]'(by rw [putL_len HLo.out (by omega)]; omega) = old1 at *
     generalize (putL (fun y => wdOf ns y) L j)[j]'(by rw [putL_len HLo.out (by omega)]; omega) = old2 at *
     clear hnc hcl hp
     generalize L[j] = y at *
     generalize cur.getD y.toNat 0 = cv at *
     generalize wdOf ns y = wd at *
     have hj22 : (j : Int) < 3 := by omega
     have HFA : Hid (Below w.heap.size w ((wr.setCell ⟨N2, j, none⟩ (.int .i64 cv)).setCell ⟨N3, j, none⟩ (.int .i64 wd)).drew ∧ Hid (IRow ((wr.setCell ⟨N2, j, none⟩ (.int .i64 cv)).setCell ⟨N3, j, none⟩ (.int .i64 wd)).drew N2 (putL (fun y => cur.getD y.toNat 0) L (j + 1))) ∧ Hid (IRow ((wr.setCell ⟨N2, j, none⟩ (.int .i64 cv)).setCell ⟨N3, j, none⟩ (.int .i64 wd)).drew N3 (putL (fun y => wdOf ns y) L (j + 1))) ∧ Hid (IRow ((wr.setCell ⟨N2, j, none⟩ (.int .i64 cv)).setCell ⟨N3, j, none⟩ (.int .i64 wd)).drew g cur) ∧ Hid (IntsAt ((wr.setCell ⟨N2, j, none⟩ (.int .i64 cv)).setCell ⟨N3, j, none⟩ (.int .i64 wd)).drew (some ⟨h, 0, none⟩) L) ∧ ((wr.setCell ⟨N2, j, none⟩ (.int .i64 cv)).setCell ⟨N3, j, none⟩ (.int .i64 wd)).drew.cell? ⟨w.heap.size, 0, none⟩ = some (.slice (some ⟨nb, noff, none⟩) ns.length c0) ∧ ((wr.setCell ⟨N2, j, none⟩ (.int .i64 cv)).setCell ⟨N3, j, none⟩ (.int .i64 wd)).drew.cell? ⟨w.heap.size + 1, 0, none⟩ = some (.int .i64 kd) ∧ ((wr.setCell ⟨N2, j, none⟩ (.int .i64 cv)).setCell ⟨N3, j, none⟩ (.int .i64 wd)).drew.cell? ⟨w.heap.size + 1, 1, none⟩ = some (.int .i64 v) ∧ ((wr.setCell ⟨N2, j, none⟩ (.int .i64 cv)).setCell ⟨N3, j, none⟩ (.int .i64 wd)).drew.cell? ⟨w.heap.size + 1, 5, none⟩ = some (.int .i64 n)) :=
       ⟨((hbw.setCell hN2' _).setCell hN3' _).drew, by rw [← HS1.out]; exact (hG.out.set j cv).other e1 j _, by rw [← HS2.out]; exact (hWd.out.other (fun e => e1 e.symm) j _).set j wd, (hRw.out.other e2 j _).other e3 j _, ints_other (ints_other hIL.out e4) e5, keepOther e7 (keepOther e6 u0), keepOther e9 (keepOther e8 u1), keepOther e9 (keepOther e8 u2), keepOther e9 (keepOther e8 u3)⟩
     go_wp2
     go_region
     all_goals
       clear hG hWd hRw hIL
       go_wp2
       go_roundw
       case rel => first | exact ⟨j + 1, by omega, by go_num, HFA.out⟩ | ((repeat apply Exists.intro); exact ⟨⟨j + 1, by omega, by go_num, HFA.out⟩, rfl⟩)
       case measure => simp [intOf]; omega
   · obtain rfl : j = L.length := by omega
     have hGv := hG.out
     have hWv := hWd.out
     rw [HGv.out] at hGv
     rw [HGw.out] at hWv
     have r0 := (hGv 0 (by simp)).1
     have r1 := (hGv 1 (by simp)).1
     have r2 := (hGv 2 (by simp)).1
     have s0 := (hWv 0 (by simp)).1
     have s1 := (hWv 1 (by simp)).1
     have s2 := (hWv 2 (by simp)).1
     simp only [List.getElem_cons_zero, List.getElem_cons_succ] at r0 r1 r2 s0 s1 s2
     clear hG hWd hRw hIL hGv hWv HGv HGw
     go_wp2_with fail
     refine (HAP.out _).mono ?_
     rintro e w7 ⟨rfl, hb7⟩
     go_wp2
     go_ret
     exact ⟨rfl, bthen hbw hb7⟩
end Go.Proofs.YtjhkecnnhddhbaaGreatDoor.Ev

namespace Go.Proofs.YtjhkecnnhddhbaaGreatDoor.Ev
open Go.RowKit
set_option maxRecDepth 100000
theorem ints_next {b off : Nat} {s : Int} {rest : List Int} (w0 : World) (h : IntsAt w0 (some ⟨b, off, none⟩) (s :: rest)) : IntsAt w0 (some ⟨b, off + 1, none⟩) rest := by
 intro _
 obtain ⟨b', off', hp, hc⟩ := h (by simp)
 obtain ⟨rfl, rfl⟩ : b = b' ∧ off = off' := by injection hp with hp; injection hp with h1 h2; exact ⟨h1, h2⟩
 refine ⟨b, off + 1, rfl, fun i hi => ?_⟩
 have := hc (i + 1) (by simp; omega)
 simp only [List.getElem_cons_succ] at this
 rw [Nat.add_assoc, Nat.add_comm 1 i]
 exact this
set_option maxRecDepth 100000 in
set_option maxHeartbeats 2000000 in
theorem stands3_any (v x y z n : Int) (B4 B5 : Nat) (s : Int) (rest : List Int) (p : Option Addr) (cap : Nat) (hcap : rest.length + 1 ≤ cap) (hmax : cap ≤ maxLen) (w : World) (hI : IntsAt w p (s :: rest))
   (hB : w.cell? ⟨B4, 0, none⟩ = some (.slice p (rest.length + 1) cap)) (hf : w.frozen? ⟨B4, 0, none⟩ = false) :
   Calls Tryz.prog 164 #[.agg #[.int .i64 3, .int .i64 v, .int .i64 x, .int .i64 y, .int .i64 z, .int .i64 n], .pointer (some ⟨B4, 0, none⟩), .pointer (some ⟨B5, 0, none⟩)] w fun e w' =>
     e = .returned (.int .i64 s) ∧ ∃ p' cap', w' = ((w.alloc (.cells #[.int .i64 3, .int .i64 v, .int .i64 x, .int .i64 y, .int .i64 z, .int .i64 n] 93)).setCell ⟨B4, 0, none⟩ (.slice p' rest.length cap')).drew ∧ (∀ w0, IntsAt w0 p (s :: rest) → IntsAt w0 p' rest) ∧ rest.length ≤ cap' ∧ cap' ≤ cap := by
 obtain ⟨b, off, rfl, hc⟩ := hI (by simp)
 have d0 := hc 0 (by simp)
 simp only [List.getElem_cons_zero, Nat.add_zero] at d0
 have HT : Hid (∀ w0, IntsAt w0 (some ⟨b, off, none⟩) (s :: rest) → IntsAt w0 (some ⟨b, off + 1, none⟩) rest) := ints_next
 have HT0 : Hid (rest.length = 0 → ∀ w0, IntsAt w0 (some ⟨b, off, none⟩) rest) := fun h _ h0 => by omega
 have k0 := past1 d0 (.cells #[.int .i64 3, .int .i64 v, .int .i64 x, .int .i64 y, .int .i64 z, .int .i64 n] 93)
 have k4 := past1 hB (.cells #[.int .i64 3, .int .i64 v, .int .i64 x, .int .i64 y, .int .i64 z, .int .i64 n] 93)
 have kf : (w.alloc (.cells #[.int .i64 3, .int .i64 v, .int .i64 x, .int .i64 y, .int .i64 z, .int .i64 n] 93)).frozen? ⟨B4, 0, none⟩ = false := frozen_later (bal (Below.refl _ _) _) hB hf
 unfold maxLen at hmax
 clear hI hc hB hf d0
 generalize rest.length = len at *
 go_enter Tryz.func164, Tryz.ntmps164
 go_wp2
 generalize hwa : w.alloc (.cells #[.int .i64 3, .int .i64 v, .int .i64 x, .int .i64 y, .int .i64 z, .int .i64 n] 93) = wa at *
 have Hwa := hide hwa
 clear hwa
 go_region
 all_goals
   go_wp2
   all_goals
     go_ret
     first
       | exact ⟨rfl, some ⟨b, off, none⟩, 0, by rw [Hwa.out], (fun w0 _ => HT0.out (by omega) w0), by omega, by omega⟩
       | exact ⟨rfl, some ⟨b, off + 1, none⟩, cap - 1, by rw [Hwa.out], (fun w0 h0 => HT.out w0 h0), by omega, by omega⟩
set_option maxRecDepth 100000 in
set_option maxHeartbeats 2000000 in
theorem stands2_any (v x y z n : Int) (B4 B5 : Nat) (s : Int) (rest : List Int) (p : Option Addr) (cap : Nat) (hcap : rest.length + 1 ≤ cap) (hmax : cap ≤ maxLen) (w : World) (hI : IntsAt w p (s :: rest))
   (hB : w.cell? ⟨B5, 0, none⟩ = some (.slice p (rest.length + 1) cap)) (hf : w.frozen? ⟨B5, 0, none⟩ = false) :
   Calls Tryz.prog 164 #[.agg #[.int .i64 2, .int .i64 v, .int .i64 x, .int .i64 y, .int .i64 z, .int .i64 n], .pointer (some ⟨B4, 0, none⟩), .pointer (some ⟨B5, 0, none⟩)] w fun e w' =>
     e = .returned (.int .i64 s) ∧ ∃ p' cap', w' = ((w.alloc (.cells #[.int .i64 2, .int .i64 v, .int .i64 x, .int .i64 y, .int .i64 z, .int .i64 n] 93)).setCell ⟨B5, 0, none⟩ (.slice p' rest.length cap')).drew ∧ (∀ w0, IntsAt w0 p (s :: rest) → IntsAt w0 p' rest) ∧ rest.length ≤ cap' ∧ cap' ≤ cap := by
 obtain ⟨b, off, rfl, hc⟩ := hI (by simp)
 have d0 := hc 0 (by simp)
 simp only [List.getElem_cons_zero, Nat.add_zero] at d0
 have HT : Hid (∀ w0, IntsAt w0 (some ⟨b, off, none⟩) (s :: rest) → IntsAt w0 (some ⟨b, off + 1, none⟩) rest) := ints_next
 have HT0 : Hid (rest.length = 0 → ∀ w0, IntsAt w0 (some ⟨b, off, none⟩) rest) := fun h _ h0 => by omega
 have k0 := past1 d0 (.cells #[.int .i64 2, .int .i64 v, .int .i64 x, .int .i64 y, .int .i64 z, .int .i64 n] 93)
 have k4 := past1 hB (.cells #[.int .i64 2, .int .i64 v, .int .i64 x, .int .i64 y, .int .i64 z, .int .i64 n] 93)
 have kf : (w.alloc (.cells #[.int .i64 2, .int .i64 v, .int .i64 x, .int .i64 y, .int .i64 z, .int .i64 n] 93)).frozen? ⟨B5, 0, none⟩ = false := frozen_later (bal (Below.refl _ _) _) hB hf
 unfold maxLen at hmax
 clear hI hc hB hf d0
 generalize rest.length = len at *
 go_enter Tryz.func164, Tryz.ntmps164
 go_wp2
 generalize hwa : w.alloc (.cells #[.int .i64 2, .int .i64 v, .int .i64 x, .int .i64 y, .int .i64 z, .int .i64 n] 93) = wa at *
 have Hwa := hide hwa
 clear hwa
 go_region
 all_goals
   go_wp2
   all_goals
     go_ret
     first
       | exact ⟨rfl, some ⟨b, off, none⟩, 0, by rw [Hwa.out], (fun w0 _ => HT0.out (by omega) w0), by omega, by omega⟩
       | exact ⟨rfl, some ⟨b, off + 1, none⟩, cap - 1, by rw [Hwa.out], (fun w0 h0 => HT.out w0 h0), by omega, by omega⟩
set_option maxHeartbeats 400000 in
theorem stands1_any (v x y z n : Int) (B4 B5 : Nat) (w : World) :
   Calls Tryz.prog 164 #[.agg #[.int .i64 1, .int .i64 v, .int .i64 x, .int .i64 y, .int .i64 z, .int .i64 n], .pointer (some ⟨B4, 0, none⟩), .pointer (some ⟨B5, 0, none⟩)] w fun e w' => e = .returned (.int .i64 n) ∧ Below w.heap.size w w' := by
 go_enter Tryz.func164, Tryz.ntmps164
 go_wp2
 go_ret
 exact ⟨rfl, bal (Below.refl _ _) _⟩
structure WS (w wr : World) (m : Mv) (n g B4 B5 : Nat) (cur : List Int) (v4 v5 : Value) : Prop where
 below : Below w.heap.size w wr
 box : Box wr w.heap.size m n
 row : IRow wr g cur
 b4 : wr.cell? ⟨B4, 0, none⟩ = some v4
 f4 : wr.frozen? ⟨B4, 0, none⟩ = false
 b5 : wr.cell? ⟨B5, 0, none⟩ = some v5
 f5 : wr.frozen? ⟨B5, 0, none⟩ = false
 h4 : w.heap.size < B4
 h5 : B4 < B5
 hg : B5 < g
theorem WS.later {w wr w1 : World} {m : Mv} {n g B4 B5 : Nat} {cur : List Int} {v4 v5 : Value} (h : WS w wr m n g B4 B5 cur v4 v5) (hb : Below wr.heap.size wr w1) : WS w w1 m n g B4 B5 cur v4 v5 :=
 ⟨bthen h.below hb, h.box.later hb, h.row.later hb, cell_later hb h.b4, frozen_later hb h.b4 h.f4, cell_later hb h.b5, frozen_later hb h.b5 h.f5, h.h4, h.h5, h.hg⟩
theorem WS.drew {w wr : World} {m : Mv} {n g B4 B5 : Nat} {cur : List Int} {v4 v5 : Value} (h : WS w wr m n g B4 B5 cur v4 v5) : WS w wr.drew m n g B4 B5 cur v4 v5 :=
 ⟨h.below.drew, h.box, h.row, h.b4, h.f4, h.b5, h.f5, h.h4, h.h5, h.hg⟩
theorem WS.set4 {w wr : World} {m : Mv} {n g B4 B5 : Nat} {cur : List Int} {v4 v5 : Value} (h : WS w wr m n g B4 B5 cur v4 v5) (u : Value) : WS w (wr.setCell ⟨B4, 0, none⟩ u) m n g B4 B5 cur u v5 := by
 have e1 := h.h4
 have e2 := h.h5
 have e3 := h.hg
 obtain ⟨q0, q1, q2, q3, q4⟩ := h.box
 exact ⟨h.below.setCell (show w.heap.size ≤ B4 from by omega) _, ⟨keepOther (by omega) q0, keepOther (by omega) q1, keepOther (by omega) q2, keepOther (by omega) q3, keepOther (by omega) q4⟩, h.row.other (by omega) 0 u,
   World.cell?_setCell_same _ _ _ h.b4, (World.frozen?_setCell _ _ _ _).trans h.f4, keepOther (by omega) h.b5, (World.frozen?_setCell _ _ _ _).trans h.f5, e1, e2, e3⟩
theorem WS.set5 {w wr : World} {m : Mv} {n g B4 B5 : Nat} {cur : List Int} {v4 v5 : Value} (h : WS w wr m n g B4 B5 cur v4 v5) (u : Value) : WS w (wr.setCell ⟨B5, 0, none⟩ u) m n g B4 B5 cur v4 u := by
 have e1 := h.h4
 have e2 := h.h5
 have e3 := h.hg
 obtain ⟨q0, q1, q2, q3, q4⟩ := h.box
 exact ⟨h.below.setCell (show w.heap.size ≤ B5 from by omega) _, ⟨keepOther (by omega) q0, keepOther (by omega) q1, keepOther (by omega) q2, keepOther (by omega) q3, keepOther (by omega) q4⟩, h.row.other (by omega) 0 u,
   keepOther (by omega) h.b4, (World.frozen?_setCell _ _ _ _).trans h.f4, World.cell?_setCell_same _ _ _ h.b5, (World.frozen?_setCell _ _ _ _).trans h.f5, e1, e2, e3⟩
theorem WS.put {w wr : World} {m : Mv} {n g B4 B5 : Nat} {cur : List Int} {v4 v5 : Value} (h : WS w wr m n g B4 B5 cur v4 v5) (k : Nat) (x : Int) : WS w (wr.setCell ⟨g, k, none⟩ (.int .i64 x)) m n g B4 B5 (cur.set k x) v4 v5 := by
 have e1 := h.h4
 have e2 := h.h5
 have e3 := h.hg
 obtain ⟨q0, q1, q2, q3, q4⟩ := h.box
 exact ⟨h.below.setCell (show w.heap.size ≤ g from by omega) _, ⟨keepOther (by omega) q0, keepOther (by omega) q1, keepOther (by omega) q2, keepOther (by omega) q3, keepOther (by omega) q4⟩, h.row.set k x,
   keepOther (by omega) h.b4, (World.frozen?_setCell _ _ _ _).trans h.f4, keepOther (by omega) h.b5, (World.frozen?_setCell _ _ _ _).trans h.f5, e1, e2, e3⟩
def curL (ns : List Nd) (sts ins : List Int) (k : Nat) : List Int := vals ns sts ins k ++ List.replicate (ns.length - k) 0
theorem curL_len {ns : List Nd} {sts ins : List Int} {k : Nat} (hk : k ≤ ns.length) : (curL ns sts ins k).length = ns.length := by
 unfold curL; rw [List.length_append, vals_len, List.length_replicate]; omega
theorem curL_set {ns : List Nd} {sts ins : List Int} {k : Nat} (hk : k < ns.length) {x : Int} (h : valAt ns sts ins (vals ns sts ins k) k = x) : (curL ns sts ins k).set k x = curL ns sts ins (k + 1) := by
 unfold curL
 have e1 : ns.length - k = (ns.length - (k + 1)) + 1 := by omega
 rw [e1, List.replicate_succ, List.set_append_right _ _ (by rw [vals_len]; omega), vals_len, Nat.sub_self, List.set_cons_zero]
 simp only [vals]
 rw [h, List.append_assoc]
 rfl
theorem curL_get {ns : List Nd} {sts ins : List Int} {k j : Nat} (hj : j < k) : (curL ns sts ins k).getD j 0 = (vals ns sts ins k).getD j 0 := by
 unfold curL
 simp only [List.getD]
 rw [List.getElem?_append_left (by rw [vals_len]; exact hj)]
theorem curL_opv {ns : List Nd} {sts ins : List Int} {k : Nat} {t i x : Int} (h : i < t → 0 ≤ x ∧ x < k) : opv (curL ns sts ins k) t i x = opv (vals ns sts ins k) t i x := by
 unfold opv
 by_cases hi : i < t
 · rw [if_pos hi, if_pos hi, curL_get (by have := h hi; omega)]
 · rw [if_neg hi, if_neg hi]
theorem drop_cons {l : List Int} {i : Nat} (h : i < l.length) : l.drop i = l.getD i 0 :: l.drop (i + 1) := by
 rw [List.drop_eq_getElem_cons h, getD_at h]
theorem ahead_yes {ns : List Nd} {kind : Int} {k : Nat} (h : isK ns kind k = true) : ahead ns kind (k + 1) = ahead ns kind k + 1 := by
 unfold ahead; rw [sel_yes h]; simp
theorem ahead_no {ns : List Nd} {kind : Int} {k : Nat} (h : isK ns kind k = false) : ahead ns kind (k + 1) = ahead ns kind k := by
 unfold ahead; rw [sel_no h]
def SL (w : World) (v : Value) (l : List Int) : Prop := ∃ p cap, v = .slice p l.length cap ∧ IntsAt w p l ∧ l.length ≤ cap ∧ cap ≤ maxLen
set_option maxRecDepth 100000 in
set_option maxHeartbeats 8000000 in
theorem words_any2 (m : Mv) (ns : List Nd) (hl : ns.length ≤ 80) (hn : firstN (nodeAtE ns) ns.length = 0) (sts ins : List Int) (hs : wordsE ns 3 sts = 0) (hi : wordsE ns 2 ins = 0) (v4 v5 : Value) (w : World) (hN : NodesAt w m.a0 ns) (hS : SL w v4 sts) (hI : SL w v5 ins) :
   Calls Tryz.prog 137 #[m.val ns.length, v4, v5] w fun e w' => ∃ g, e = .returned (.slice (some ⟨g, 0, none⟩) ns.length ns.length) ∧ IRow w' g (vals ns sts ins ns.length) ∧ Below w.heap.size w w' := by
 have hmf : ∀ (fn : Fn) (first cap : Array Value) (w : World), (Instr.makeFunc fn first cap).run Tryz.prog w = .ok (.func fn first cap) w := fun _ _ _ _ => rfl
 obtain ⟨i0, hii, hz0, hz1, hz2⟩ := info_parts info3
 obtain ⟨a0, c0, a1, l1, c1, a2, l2, c2, a3, l3, c3, a4, l4, c4⟩ := m
 simp only at hN
 have HI2 := hide (words_zero hi).2
 have HS3 := hide (words_zero hs).2
 have HVW := hide (vals_isW hn hs hi)
 have HNd := hide (firstN_zero.1 hn)
 have HN := hide hN
 have HS := hide hS
 have HI := hide hI
 clear hn hs hi hN hS hI
 obtain ⟨p4, k4, rfl, hI4, hc41, hc42⟩ := HS.out
 obtain ⟨p5, k5, rfl, hI5, hc51, hc52⟩ := HI.out
 clear hI4 hI5
 have hb3 : Below w.heap.size w (((w.alloc (.cells (Mv.cells ⟨a0, c0, a1, l1, c1, a2, l2, c2, a3, l3, c3, a4, l4, c4⟩ ns.length) 65)).alloc (.cells #[.slice p4 sts.length k4] 25)).alloc (.cells #[.slice p5 ins.length k5] 25)) := bal (bal (bal (Below.refl _ _) _) _) _
 have HBx3 : Hid (Box (((w.alloc (.cells (Mv.cells ⟨a0, c0, a1, l1, c1, a2, l2, c2, a3, l3, c3, a4, l4, c4⟩ ns.length) 65)).alloc (.cells #[.slice p4 sts.length k4] 25)).alloc (.cells #[.slice p5 ins.length k5] 25)) w.heap.size ⟨a0, c0, a1, l1, c1, a2, l2, c2, a3, l3, c3, a4, l4, c4⟩ ns.length) := by
   have h := Box.new w ⟨a0, c0, a1, l1, c1, a2, l2, c2, a3, l3, c3, a4, l4, c4⟩ ns.length
   exact h.later (bal (bal (Below.refl _ _) _) _)
 have b4 : (((w.alloc (.cells (Mv.cells ⟨a0, c0, a1, l1, c1, a2, l2, c2, a3, l3, c3, a4, l4, c4⟩ ns.length) 65)).alloc (.cells #[.slice p4 sts.length k4] 25)).alloc (.cells #[.slice p5 ins.length k5] 25)).cell? ⟨w.heap.size + 1, 0, none⟩ = some (.slice p4 sts.length k4) := by simp [go_sem]
 have f4 : (((w.alloc (.cells (Mv.cells ⟨a0, c0, a1, l1, c1, a2, l2, c2, a3, l3, c3, a4, l4, c4⟩ ns.length) 65)).alloc (.cells #[.slice p4 sts.length k4] 25)).alloc (.cells #[.slice p5 ins.length k5] 25)).frozen? ⟨w.heap.size + 1, 0, none⟩ = false := by simp [go_sem]
 have b5 : (((w.alloc (.cells (Mv.cells ⟨a0, c0, a1, l1, c1, a2, l2, c2, a3, l3, c3, a4, l4, c4⟩ ns.length) 65)).alloc (.cells #[.slice p4 sts.length k4] 25)).alloc (.cells #[.slice p5 ins.length k5] 25)).cell? ⟨w.heap.size + 1 + 1, 0, none⟩ = some (.slice p5 ins.length k5) := by simp [go_sem]
 have f5 : (((w.alloc (.cells (Mv.cells ⟨a0, c0, a1, l1, c1, a2, l2, c2, a3, l3, c3, a4, l4, c4⟩ ns.length) 65)).alloc (.cells #[.slice p4 sts.length k4] 25)).alloc (.cells #[.slice p5 ins.length k5] 25)).frozen? ⟨w.heap.size + 1 + 1, 0, none⟩ = false := by simp [go_sem]
 have HB3 := hide hb3
 clear hb3
 go_enter Tryz.func137, Tryz.ntmps137
 go_wp2_with (at_make; refine wpList_make_full _ rfl _ _ 25 rfl (w.heap.size + 1 + 1 + 1) 3 i0 (.int .i64 0) 1 Tryz.underlying25 hii hz0 hz1 .i64 .i64 _ _ ns.length rfl rfl rfl rfl (by rw [hz2]; omega) (by unfold maxLen; omega) (by simp) ?_)
 intro w3 hownM hgrowM
 have hb := (Below.refl _ _).grown hgrowM (Nat.le_refl _) (fun _ h => by cases h)
 have hR1 : IRow w3 (w.heap.size + 1 + 1 + 1) (curL ns sts ins 0) := by
   intro j hj
   have hj' : j < ns.length := by rw [curL_len (by omega)] at hj; exact hj
   refine ⟨?_, hownM.frozenAt j⟩
   rw [hownM.cellAt j (by omega)]
   simp [toList_madeCells_one, hj', curL, vals]
 have HC0 : Hid (WS w w3 ⟨a0, c0, a1, l1, c1, a2, l2, c2, a3, l3, c3, a4, l4, c4⟩ ns.length (w.heap.size + 1 + 1 + 1) (w.heap.size + 1) (w.heap.size + 1 + 1) (curL ns sts ins 0) (.slice p4 sts.length k4) (.slice p5 ins.length k5)) :=
   ⟨bthen HB3.out hb, HBx3.out.later hb, hR1, cell_later hb b4, frozen_later hb b4 f4, cell_later hb b5, frozen_later hb b5 f5, by omega, by omega, by omega⟩
 have q0 := HC0.out.box.1
 clear hownM hgrowM hR1 hb b4 f4 b5 f5 HB3 HBx3
 generalize hG : w.heap.size + 1 + 1 + 1 = g at *
 generalize hG5 : w.heap.size + 1 + 1 = B5 at *
 generalize hG4 : w.heap.size + 1 = B4 at *
 clear hG hG5 hG4
 go_wp2
 go_loopw [19] (fun i wr => ∃ (k : Nat) (v4 v5 : Value), k ≤ ns.length ∧ i = .int .i64 k ∧ Hid (WS w wr ⟨a0, c0, a1, l1, c1, a2, l2, c2, a3, l3, c3, a4, l4, c4⟩ ns.length g B4 B5 (curL ns sts ins k) v4 v5) ∧ Hid (SL w v4 (sts.drop (ahead ns 3 k))) ∧ Hid (SL w v5 (ins.drop (ahead ns 2 k)))) (fun i _ => ns.length - (intOf i).toNat)
 case atStart => exact ⟨0, _, _, Nat.zero_le _, rfl, HC0, HS, HI⟩
 case round =>
 clear q0 HC0
 obtain ⟨k, v4, v5, hk, rfl, HC, HL4, HL5⟩ := hrel
 have q0 := HC.out.box.1
 by_cases hlt : k < ns.length
 · obtain ⟨nb, noff, rfl, hc⟩ := HN.out (by omega)
   obtain ⟨d0, d1, d2, d3, d4, d5⟩ := hc k hlt
   have x0 := cell_later HC.out.below d0
   have x1 := cell_later HC.out.below d1
   have x2 := cell_later HC.out.below d2
   have x3 := cell_later HC.out.below d3
   have x4 := cell_later HC.out.below d4
   have x5 := cell_later HC.out.below d5
   have hkl : (k : Int) < (ns.length : Int) := by omega
   have HVA : Hid (valAt ns sts ins (vals ns sts ins k) k = if ns[k].kind = 1 then ns[k].n else if ns[k].kind = 2 then ins.getD (ahead ns 2 k) 0 else if ns[k].kind = 3 then sts.getD (ahead ns 3 k) 0
     else madeE ns[k].kind ns[k].width (opv (vals ns sts ins k) (takes ns[k].kind) 0 ns[k].a) (opv (vals ns sts ins k) (takes ns[k].kind) 1 ns[k].b) (opv (vals ns sts ins k) (takes ns[k].kind) 2 ns[k].c) ns[k].n (wds ns (takes ns[k].kind) 0 ns[k].a) (wds ns (takes ns[k].kind) 1 ns[k].b)) := by
     unfold valAt; rw [List.getElem?_eq_getElem hlt]; rfl
   have HIK : Hid (∀ q : Int, isK ns q k = (ns[k].kind == q)) := fun q => isK_at hlt
   have HZ : Hid (nodeE ns k ns[k] = 0) := by have := HNd.out k hlt; rw [nodeAtE_at hlt] at this; exact this
   clear d0 d1 d2 d3 d4 d5 hc
   generalize ns[k] = nd at *
   obtain ⟨kd, v, x, y, z, n⟩ := nd
   simp only at *
   have hkd : 1 ≤ kd ∧ kd ≤ 23 := (node_zero HZ.out).2.1
   have hcase : kd = 1 ∨ kd = 2 ∨ kd = 3 ∨ 4 ≤ kd := by omega
   rcases hcase with k1 | k2 | k3 | k4
   · subst k1
     have HOP := hide (fun w => isOp_any 1 w)
     rw [show btw 1 4 23 = false from by decide] at HOP
     have HV : Hid (valAt ns sts ins (vals ns sts ins k) k = n) := by rw [HVA.out]; simp [Hid]
     have HCS := hide (fun (x : Int) (h : valAt ns sts ins (vals ns sts ins k) k = x) => curL_set hlt h)
     have HK2 : Hid (isK ns 2 k = false) := HIK.out 2
     have HK3 : Hid (isK ns 3 k = false) := HIK.out 3
     have hba : Below wr.heap.size wr (wr.alloc (.cells #[.int .i64 1, .int .i64 v, .int .i64 x, .int .i64 y, .int .i64 z, .int .i64 n] 93)) := bal (Below.refl _ _) _
     have HCa := hide (HC.out.later hba)
     have n0 : (wr.alloc (.cells #[.int .i64 1, .int .i64 v, .int .i64 x, .int .i64 y, .int .i64 z, .int .i64 n] 93)).cell? ⟨wr.heap.size, 0, none⟩ = some (.int .i64 1) := by simp [go_sem]
     have n1 : (wr.alloc (.cells #[.int .i64 1, .int .i64 v, .int .i64 x, .int .i64 y, .int .i64 z, .int .i64 n] 93)).cell? ⟨wr.heap.size, 1, none⟩ = some (.int .i64 v) := by simp [go_sem]
     have n2 : (wr.alloc (.cells #[.int .i64 1, .int .i64 v, .int .i64 x, .int .i64 y, .int .i64 z, .int .i64 n] 93)).cell? ⟨wr.heap.size, 2, none⟩ = some (.int .i64 x) := by simp [go_sem]
     have n3 : (wr.alloc (.cells #[.int .i64 1, .int .i64 v, .int .i64 x, .int .i64 y, .int .i64 z, .int .i64 n] 93)).cell? ⟨wr.heap.size, 3, none⟩ = some (.int .i64 y) := by simp [go_sem]
     have n4 : (wr.alloc (.cells #[.int .i64 1, .int .i64 v, .int .i64 x, .int .i64 y, .int .i64 z, .int .i64 n] 93)).cell? ⟨wr.heap.size, 4, none⟩ = some (.int .i64 z) := by simp [go_sem]
     have n5 : (wr.alloc (.cells #[.int .i64 1, .int .i64 v, .int .i64 x, .int .i64 y, .int .i64 z, .int .i64 n] 93)).cell? ⟨wr.heap.size, 5, none⟩ = some (.int .i64 n) := by simp [go_sem]
     clear hba
     go_wp2_with (first | (go_at_call 107; refine (HOP.out _).mono ?_; rintro e w' ⟨rfl, rfl⟩))
     refine (stands1_any v x y z n B4 B5 _).mono ?_
     rintro e w2 ⟨rfl, hb2⟩
     have HC2 := hide (HCa.out.later hb2)
     obtain ⟨g1, g2⟩ := HC2.out.row k (by rw [curL_len (by omega)]; omega)
     generalize (curL ns sts ins k)[k]'(by rw [curL_len (by omega)]; omega) = old at *
     have HFin := hide (HC2.out.put k n)
     rw [HCS.out _ HV.out] at HFin
     have HM4 : Hid (SL w v4 (sts.drop (ahead ns 3 (k + 1)))) := by rw [ahead_no HK3.out]; exact HL4
     have HM5 : Hid (SL w v5 (ins.drop (ahead ns 2 (k + 1)))) := by rw [ahead_no HK2.out]; exact HL5
     clear hb2 HC2 HCa n0 n1 n2 n3 n4 n5 HC
     go_wp2
     go_roundw
     case rel => first | exact ⟨k + 1, _, _, by omega, by go_num, HFin, HM4, HM5⟩ | ((repeat apply Exists.intro); exact ⟨⟨k + 1, _, _, by omega, by go_num, HFin, HM4, HM5⟩, rfl⟩)
     case measure => simp [intOf]; omega
   · subst k2
     have HOP := hide (fun w => isOp_any 2 w)
     rw [show btw 2 4 23 = false from by decide] at HOP
     have HV : Hid (valAt ns sts ins (vals ns sts ins k) k = ins.getD (ahead ns 2 k) 0) := by rw [HVA.out]; simp [Hid]
     have HCS := hide (fun (x : Int) (h : valAt ns sts ins (vals ns sts ins k) k = x) => curL_set hlt h)
     have HK2 : Hid (isK ns 2 k = true) := HIK.out 2
     have HK3 : Hid (isK ns 3 k = false) := HIK.out 3
     have hin := (HI2.out k hlt HK2.out).1
     have hSL := HL5.out
     rw [drop_cons hin] at hSL
     obtain ⟨p, cap, rfl, hIp, hc1, hc2⟩ := hSL
     simp only [List.length_cons] at *
     have HSt := hide (fun (w2 : World) (hb : Below w.heap.size w w2) (hB : w2.cell? ⟨B5, 0, none⟩ = some (.slice p ((ins.drop (ahead ns 2 k + 1)).length + 1) cap)) (hf : w2.frozen? ⟨B5, 0, none⟩ = false) => stands2_any v x y z n B4 B5 (ins.getD (ahead ns 2 k) 0) (ins.drop (ahead ns 2 k + 1)) p cap hc1 hc2 w2 (hIp.later hb) hB hf)
     generalize ins.getD (ahead ns 2 k) 0 = wv at *
     have hba : Below wr.heap.size wr (wr.alloc (.cells #[.int .i64 2, .int .i64 v, .int .i64 x, .int .i64 y, .int .i64 z, .int .i64 n] 93)) := bal (Below.refl _ _) _
     have HCa := hide (HC.out.later hba)
     have n0 : (wr.alloc (.cells #[.int .i64 2, .int .i64 v, .int .i64 x, .int .i64 y, .int .i64 z, .int .i64 n] 93)).cell? ⟨wr.heap.size, 0, none⟩ = some (.int .i64 2) := by simp [go_sem]
     have n1 : (wr.alloc (.cells #[.int .i64 2, .int .i64 v, .int .i64 x, .int .i64 y, .int .i64 z, .int .i64 n] 93)).cell? ⟨wr.heap.size, 1, none⟩ = some (.int .i64 v) := by simp [go_sem]
     have n2 : (wr.alloc (.cells #[.int .i64 2, .int .i64 v, .int .i64 x, .int .i64 y, .int .i64 z, .int .i64 n] 93)).cell? ⟨wr.heap.size, 2, none⟩ = some (.int .i64 x) := by simp [go_sem]
     have n3 : (wr.alloc (.cells #[.int .i64 2, .int .i64 v, .int .i64 x, .int .i64 y, .int .i64 z, .int .i64 n] 93)).cell? ⟨wr.heap.size, 3, none⟩ = some (.int .i64 y) := by simp [go_sem]
     have n4 : (wr.alloc (.cells #[.int .i64 2, .int .i64 v, .int .i64 x, .int .i64 y, .int .i64 z, .int .i64 n] 93)).cell? ⟨wr.heap.size, 4, none⟩ = some (.int .i64 z) := by simp [go_sem]
     have n5 : (wr.alloc (.cells #[.int .i64 2, .int .i64 v, .int .i64 x, .int .i64 y, .int .i64 z, .int .i64 n] 93)).cell? ⟨wr.heap.size, 5, none⟩ = some (.int .i64 n) := by simp [go_sem]
     clear hba
     go_wp2_with (first | (go_at_call 107; refine (HOP.out _).mono ?_; rintro e w' ⟨rfl, rfl⟩))
     refine (HSt.out _ HCa.out.below HCa.out.b5 HCa.out.f5).mono ?_
     rintro e w2 ⟨rfl, p', cap', rfl, hI2, h1', h2'⟩
     have hI' : IntsAt w p' (ins.drop (ahead ns 2 k + 1)) := hI2 w hIp
     have HC2 := hide (((HCa.out.later (bal (Below.refl _ _) (.cells #[.int .i64 2, .int .i64 v, .int .i64 x, .int .i64 y, .int .i64 z, .int .i64 n] 93))).set5 (.slice p' (ins.drop (ahead ns 2 k + 1)).length cap')).drew)
     generalize (World.setCell _ _ _).drew = w2 at *
     obtain ⟨g1, g2⟩ := HC2.out.row k (by rw [curL_len (by omega)]; omega)
     generalize (curL ns sts ins k)[k]'(by rw [curL_len (by omega)]; omega) = old at *
     have HFin := hide (HC2.out.put k wv)
     rw [HCS.out _ HV.out] at HFin
     have HM4 : Hid (SL w v4 (sts.drop (ahead ns 3 (k + 1)))) := by rw [ahead_no HK3.out]; exact HL4
     have HM5 : Hid (SL w (.slice p' (ins.drop (ahead ns 2 k + 1)).length cap') (ins.drop (ahead ns 2 (k + 1)))) := by rw [ahead_yes HK2.out]; exact (⟨p', cap', rfl, hI', h1', Nat.le_trans h2' hc2⟩ : SL _ _ _)
     clear HC2 HCa n0 n1 n2 n3 n4 n5 HC
     go_wp2
     go_roundw
     case rel => first | exact ⟨k + 1, _, _, by omega, by go_num, HFin, HM4, HM5⟩ | ((repeat apply Exists.intro); exact ⟨⟨k + 1, _, _, by omega, by go_num, HFin, HM4, HM5⟩, rfl⟩)
     case measure => simp [intOf]; omega
   · subst k3
     have HOP := hide (fun w => isOp_any 3 w)
     rw [show btw 3 4 23 = false from by decide] at HOP
     have HV : Hid (valAt ns sts ins (vals ns sts ins k) k = sts.getD (ahead ns 3 k) 0) := by rw [HVA.out]; simp [Hid]
     have HCS := hide (fun (x : Int) (h : valAt ns sts ins (vals ns sts ins k) k = x) => curL_set hlt h)
     have HK2 : Hid (isK ns 2 k = false) := HIK.out 2
     have HK3 : Hid (isK ns 3 k = true) := HIK.out 3
     have hin := (HS3.out k hlt HK3.out).1
     have hSL := HL4.out
     rw [drop_cons hin] at hSL
     obtain ⟨p, cap, rfl, hIp, hc1, hc2⟩ := hSL
     simp only [List.length_cons] at *
     have HSt := hide (fun (w2 : World) (hb : Below w.heap.size w w2) (hB : w2.cell? ⟨B4, 0, none⟩ = some (.slice p ((sts.drop (ahead ns 3 k + 1)).length + 1) cap)) (hf : w2.frozen? ⟨B4, 0, none⟩ = false) => stands3_any v x y z n B4 B5 (sts.getD (ahead ns 3 k) 0) (sts.drop (ahead ns 3 k + 1)) p cap hc1 hc2 w2 (hIp.later hb) hB hf)
     generalize sts.getD (ahead ns 3 k) 0 = wv at *
     have hba : Below wr.heap.size wr (wr.alloc (.cells #[.int .i64 3, .int .i64 v, .int .i64 x, .int .i64 y, .int .i64 z, .int .i64 n] 93)) := bal (Below.refl _ _) _
     have HCa := hide (HC.out.later hba)
     have n0 : (wr.alloc (.cells #[.int .i64 3, .int .i64 v, .int .i64 x, .int .i64 y, .int .i64 z, .int .i64 n] 93)).cell? ⟨wr.heap.size, 0, none⟩ = some (.int .i64 3) := by simp [go_sem]
     have n1 : (wr.alloc (.cells #[.int .i64 3, .int .i64 v, .int .i64 x, .int .i64 y, .int .i64 z, .int .i64 n] 93)).cell? ⟨wr.heap.size, 1, none⟩ = some (.int .i64 v) := by simp [go_sem]
     have n2 : (wr.alloc (.cells #[.int .i64 3, .int .i64 v, .int .i64 x, .int .i64 y, .int .i64 z, .int .i64 n] 93)).cell? ⟨wr.heap.size, 2, none⟩ = some (.int .i64 x) := by simp [go_sem]
     have n3 : (wr.alloc (.cells #[.int .i64 3, .int .i64 v, .int .i64 x, .int .i64 y, .int .i64 z, .int .i64 n] 93)).cell? ⟨wr.heap.size, 3, none⟩ = some (.int .i64 y) := by simp [go_sem]
     have n4 : (wr.alloc (.cells #[.int .i64 3, .int .i64 v, .int .i64 x, .int .i64 y, .int .i64 z, .int .i64 n] 93)).cell? ⟨wr.heap.size, 4, none⟩ = some (.int .i64 z) := by simp [go_sem]
     have n5 : (wr.alloc (.cells #[.int .i64 3, .int .i64 v, .int .i64 x, .int .i64 y, .int .i64 z, .int .i64 n] 93)).cell? ⟨wr.heap.size, 5, none⟩ = some (.int .i64 n) := by simp [go_sem]
     clear hba
     go_wp2_with (first | (go_at_call 107; refine (HOP.out _).mono ?_; rintro e w' ⟨rfl, rfl⟩))
     refine (HSt.out _ HCa.out.below HCa.out.b4 HCa.out.f4).mono ?_
     rintro e w2 ⟨rfl, p', cap', rfl, hI2, h1', h2'⟩
     have hI' : IntsAt w p' (sts.drop (ahead ns 3 k + 1)) := hI2 w hIp
     have HC2 := hide (((HCa.out.later (bal (Below.refl _ _) (.cells #[.int .i64 3, .int .i64 v, .int .i64 x, .int .i64 y, .int .i64 z, .int .i64 n] 93))).set4 (.slice p' (sts.drop (ahead ns 3 k + 1)).length cap')).drew)
     generalize (World.setCell _ _ _).drew = w2 at *
     obtain ⟨g1, g2⟩ := HC2.out.row k (by rw [curL_len (by omega)]; omega)
     generalize (curL ns sts ins k)[k]'(by rw [curL_len (by omega)]; omega) = old at *
     have HFin := hide (HC2.out.put k wv)
     rw [HCS.out _ HV.out] at HFin
     have HM4 : Hid (SL w (.slice p' (sts.drop (ahead ns 3 k + 1)).length cap') (sts.drop (ahead ns 3 (k + 1)))) := by rw [ahead_yes HK3.out]; exact (⟨p', cap', rfl, hI', h1', Nat.le_trans h2' hc2⟩ : SL _ _ _)
     have HM5 : Hid (SL w v5 (ins.drop (ahead ns 2 (k + 1)))) := by rw [ahead_no HK2.out]; exact HL5
     clear HC2 HCa n0 n1 n2 n3 n4 n5 HC
     go_wp2
     go_roundw
     case rel => first | exact ⟨k + 1, _, _, by omega, by go_num, HFin, HM4, HM5⟩ | ((repeat apply Exists.intro); exact ⟨⟨k + 1, _, _, by omega, by go_num, HFin, HM4, HM5⟩, rfl⟩)
     case measure => simp [intOf]; omega
   · have hop := (node_zero HZ.out).2.2.2.1 k4
     have HOps := hide (node_zero HZ.out).2.2.1
     obtain ⟨i1, i2, i3, _, _⟩ := opE_in hop
     have key : ∀ u : Int, 0 ≤ u ∧ u < k → isW ((vals ns sts ins k).getD u.toNat 0) (wdOf ns u) = true := by
       intro u hu
       rw [vals_at ns sts ins (show u.toNat < k by omega)]
       have := HVW.out u.toNat (by omega)
       rwa [show ((u.toNat : Nat) : Int) = u by omega] at this
     have HOA := hide (fun (w2 : World) (hb : Below w.heap.size w w2) (hR : IRow w2 g (curL ns sts ins k)) => operate_any ⟨some ⟨nb, noff, none⟩, c0, a1, l1, c1, a2, l2, c2, a3, l3, c3, a4, l4, c4⟩ ns hl ⟨kd, v, x, y, z, n⟩ k hlt HOps.out (curL ns sts ins k) (curL_len (by omega)) g w2 (HN.out.later hb) hR (opE_fit hop)
       (by rw [curL_opv i1]; exact op_isW (fun h => key _ (i1 h))) (by rw [curL_opv i2]; exact op_isW (fun h => key _ (i2 h))) (by rw [curL_opv i3]; exact op_isW (fun h => key _ (i3 h))))
     rw [curL_opv i1, curL_opv i2, curL_opv i3] at HOA
     have HV : Hid (valAt ns sts ins (vals ns sts ins k) k = madeE kd v (opv (vals ns sts ins k) (takes kd) 0 x) (opv (vals ns sts ins k) (takes kd) 1 y) (opv (vals ns sts ins k) (takes kd) 2 z) n (wds ns (takes kd) 0 x) (wds ns (takes kd) 1 y)) := by
       rw [HVA.out, if_neg (by omega), if_neg (by omega), if_neg (by omega)]; rfl
     have HCS := hide (fun (x : Int) (h : valAt ns sts ins (vals ns sts ins k) k = x) => curL_set hlt h)
     have HK2 : Hid (isK ns 2 k = false) := by rw [HIK.out]; simp [Hid]; omega
     have HK3 : Hid (isK ns 3 k = false) := by rw [HIK.out]; simp [Hid]; omega
     have HOP := hide (fun w => isOp_any kd w)
     rw [show btw kd 4 23 = true from btw_true.2 ⟨k4, hkd.2⟩] at HOP
     simp only at HOA
     generalize madeE kd v (opv (vals ns sts ins k) (takes kd) 0 x) (opv (vals ns sts ins k) (takes kd) 1 y) (opv (vals ns sts ins k) (takes kd) 2 z) n (wds ns (takes kd) 0 x) (wds ns (takes kd) 1 y) = made at *
     have hba : Below wr.heap.size wr (wr.alloc (.cells #[.int .i64 kd, .int .i64 v, .int .i64 x, .int .i64 y, .int .i64 z, .int .i64 n] 93)) := bal (Below.refl _ _) _
     have HCa := hide (HC.out.later hba)
     have n0 : (wr.alloc (.cells #[.int .i64 kd, .int .i64 v, .int .i64 x, .int .i64 y, .int .i64 z, .int .i64 n] 93)).cell? ⟨wr.heap.size, 0, none⟩ = some (.int .i64 kd) := by simp [go_sem]
     have n1 : (wr.alloc (.cells #[.int .i64 kd, .int .i64 v, .int .i64 x, .int .i64 y, .int .i64 z, .int .i64 n] 93)).cell? ⟨wr.heap.size, 1, none⟩ = some (.int .i64 v) := by simp [go_sem]
     have n2 : (wr.alloc (.cells #[.int .i64 kd, .int .i64 v, .int .i64 x, .int .i64 y, .int .i64 z, .int .i64 n] 93)).cell? ⟨wr.heap.size, 2, none⟩ = some (.int .i64 x) := by simp [go_sem]
     have n3 : (wr.alloc (.cells #[.int .i64 kd, .int .i64 v, .int .i64 x, .int .i64 y, .int .i64 z, .int .i64 n] 93)).cell? ⟨wr.heap.size, 3, none⟩ = some (.int .i64 y) := by simp [go_sem]
     have n4 : (wr.alloc (.cells #[.int .i64 kd, .int .i64 v, .int .i64 x, .int .i64 y, .int .i64 z, .int .i64 n] 93)).cell? ⟨wr.heap.size, 4, none⟩ = some (.int .i64 z) := by simp [go_sem]
     have n5 : (wr.alloc (.cells #[.int .i64 kd, .int .i64 v, .int .i64 x, .int .i64 y, .int .i64 z, .int .i64 n] 93)).cell? ⟨wr.heap.size, 5, none⟩ = some (.int .i64 n) := by simp [go_sem]
     have hbox := HCa.out.box
     simp only [Box] at hbox
     obtain ⟨z0, z1, z2, z3, z4⟩ := hbox
     clear hba hop i1 i2 i3 key
     go_wp2_with (first | (go_at_call 107; refine (HOP.out _).mono ?_; rintro e w' ⟨rfl, rfl⟩))
     refine (HOA.out _ HCa.out.below HCa.out.row).mono ?_
     rintro e w2 ⟨rfl, hb2⟩
     have HC2 := hide (HCa.out.later hb2)
     obtain ⟨g1, g2⟩ := HC2.out.row k (by rw [curL_len (by omega)]; omega)
     generalize (curL ns sts ins k)[k]'(by rw [curL_len (by omega)]; omega) = old at *
     have HFin := hide (HC2.out.put k made)
     rw [HCS.out _ HV.out] at HFin
     have HM4 : Hid (SL w v4 (sts.drop (ahead ns 3 (k + 1)))) := by rw [ahead_no HK3.out]; exact HL4
     have HM5 : Hid (SL w v5 (ins.drop (ahead ns 2 (k + 1)))) := by rw [ahead_no HK2.out]; exact HL5
     clear hb2 HC2 HCa n0 n1 n2 n3 n4 n5 HC z0 z1 z2 z3 z4
     go_wp2
     go_roundw
     case rel => first | exact ⟨k + 1, _, _, by omega, by go_num, HFin, HM4, HM5⟩ | ((repeat apply Exists.intro); exact ⟨⟨k + 1, _, _, by omega, by go_num, HFin, HM4, HM5⟩, rfl⟩)
     case measure => simp [intOf]; omega
 · obtain rfl : k = ns.length := by omega
   have HRw := hide HC.out.row
   have HE : Hid (curL ns sts ins ns.length = vals ns sts ins ns.length) := by unfold curL; rw [Nat.sub_self]; simp [Hid]
   rw [HE.out] at HRw
   go_wp2
   go_ret
   exact ⟨g, rfl, HRw.out, HC.out.below⟩
end Go.Proofs.YtjhkecnnhddhbaaGreatDoor.Ev
