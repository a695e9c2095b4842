/- What comes of a model: what an operation makes of the words ahead of it. -/
import Derived.Test.YtfobcnhibhbbaaaGreatDoorEbM
import Derived.Test.YtfobcnhibhbbaaaGreatDoorEaM
namespace Go.Proofs.YtfobcnhibhbbaaaGreatDoor.Ev
open Go.RowKit
set_option maxRecDepth 100000

/-- Numbers in a row that may be written. -/
def IRow (w : World) (g : Nat) (l : List Int) : Prop := ∀ (j : Nat) (h : j < l.length), w.cell? ⟨g, j, none⟩ = some (.int .i64 l[j]) ∧ w.frozen? ⟨g, j, none⟩ = false
theorem IRow.later {w w1 : World} {g : Nat} {l : List Int} (h : IRow w g l) (hb : Below w.heap.size w w1) : IRow w1 g l := fun j hj =>
  ⟨cell_later hb (h j hj).1, frozen_later hb (h j hj).1 (h j hj).2⟩
theorem IRow.set {w : World} {g : Nat} {l : List Int} (h : IRow w g l) (k : Nat) (x : Int) : IRow (w.setCell ⟨g, k, none⟩ (.int .i64 x)) g (l.set k x) := by
  intro j hj
  have hj' : j < l.length := by simpa using hj
  refine ⟨?_, (World.frozen?_setCell _ _ _ _).trans (h j hj').2⟩
  by_cases e : k = j
  · subst e
    rw [World.cell?_setCell_same _ _ _ (h k hj').1]
    simp
  · rw [World.cell?_setCell_other _ _ _ _ (by simp), (h j hj').1, List.getElem_set_ne e]
theorem IRow.other {w : World} {g g2 : Nat} {l : List Int} (h : IRow w g l) (hne : ¬ g = g2) (k : Nat) (u : Value) : IRow (w.setCell ⟨g2, k, none⟩ u) g l := fun j hj =>
  ⟨keepOther hne (h j hj).1, (World.frozen?_setCell _ _ _ _).trans (h j hj).2⟩
theorem IRow.at {w : World} {g : Nat} {l : List Int} (h : IRow w g l) (x : Int) (h0 : 0 ≤ x) (h1 : x < l.length) : w.cell? ⟨g, x.toNat, none⟩ = some (.int .i64 (l.getD x.toNat 0)) := by
  rw [(h x.toNat (by omega)).1, getD_at]

theorem ints_other {w : World} {h g2 k : Nat} {l : List Int} {u : Value} (hI : IntsAt w (some ⟨h, 0, none⟩) l) (hne : ¬ h = g2) : IntsAt (w.setCell ⟨g2, k, none⟩ u) (some ⟨h, 0, none⟩) l := by
  intro h0
  obtain ⟨b, off, hp, hc⟩ := hI h0
  obtain ⟨rfl, rfl⟩ : h = b ∧ 0 = off := by injection hp with hp; injection hp with h1 h2; exact ⟨h1, h2⟩
  exact ⟨h, 0, rfl, fun i hi => keepOther hne (hc i hi)⟩

/-- The words, or widths, put so far, of three places. -/
def putL (f : Int → Int) (L : List Int) (k : Nat) : List Int := (L.take k).map f ++ List.replicate (3 - k) 0
theorem putL_len {f : Int → Int} {L : List Int} {k : Nat} (hL : L.length ≤ 3) (hk : k ≤ L.length) : (putL f L k).length = 3 := by
  unfold putL; simp; omega
theorem putL_set {f : Int → Int} {L : List Int} {k : Nat} (hL : L.length ≤ 3) (hk : k < L.length) : (putL f L k).set k (f L[k]) = putL f L (k + 1) := by
  unfold putL
  have e1 : 3 - k = (3 - (k + 1)) + 1 := by omega
  have e2 : ((L.take k).map f).length = k := by simp; omega
  rw [e1, List.replicate_succ, List.set_append_right _ _ (by omega), e2, Nat.sub_self, List.set_cons_zero, List.take_succ_eq_append_getElem hk, List.map_append]
  simp

theorem putL_all (x : Nd) (f : Int → Int) : putL f (opsL x) (opsL x).length = [if 0 < takes x.kind then f x.a else 0, if 1 < takes x.kind then f x.b else 0, if 2 < takes x.kind then f x.c else 0] := by
  unfold putL
  rw [List.take_length]
  unfold opsL
  rcases takes_four x.kind with h | h | h | h <;> rw [h] <;> rfl

set_option maxRecDepth 100000 in
set_option maxHeartbeats 2000000 in
theorem operandsF_at (k v x y z n : Int) (t : Nat) (ht : takes k = t) (h4 : t = 0 ∨ t = 1 ∨ t = 2 ∨ t = 3) (w : World) :
    Calls Tryz.prog 76 #[.agg #[.int .i64 k, .int .i64 v, .int .i64 x, .int .i64 y, .int .i64 z, .int .i64 n]] w fun e w' =>
      ∃ g, w.heap.size ≤ g ∧ e = .returned (.slice (some ⟨g, 0, none⟩) t 3) ∧ IntsAt w' (some ⟨g, 0, none⟩) ([x, y, z].take t) ∧ Below w.heap.size w w' := by
  have hw := words_any k
  rw [ht] at hw
  have Hw : Hid _ := hw
  clear hw ht
  rcases h4 with rfl | rfl | rfl | rfl
  all_goals
    go_enter Tryz.func76, Tryz.ntmps76
    go_wp2
    have z0 : (w.alloc (.cells #[.int .i64 k, .int .i64 v, .int .i64 x, .int .i64 y, .int .i64 z, .int .i64 n] 62)).cell? ⟨w.heap.size, 0, none⟩ = some (.int .i64 k) := by simp [go_sem]
    have z2 : (w.alloc (.cells #[.int .i64 k, .int .i64 v, .int .i64 x, .int .i64 y, .int .i64 z, .int .i64 n] 62)).cell? ⟨w.heap.size, 2, none⟩ = some (.int .i64 x) := by simp [go_sem]
    have z3 : (w.alloc (.cells #[.int .i64 k, .int .i64 v, .int .i64 x, .int .i64 y, .int .i64 z, .int .i64 n] 62)).cell? ⟨w.heap.size, 3, none⟩ = some (.int .i64 y) := by simp [go_sem]
    have z4 : (w.alloc (.cells #[.int .i64 k, .int .i64 v, .int .i64 x, .int .i64 y, .int .i64 z, .int .i64 n] 62)).cell? ⟨w.heap.size, 4, none⟩ = some (.int .i64 z) := by simp [go_sem]
    have hbx : Below w.heap.size w (w.alloc (.cells #[.int .i64 k, .int .i64 v, .int .i64 x, .int .i64 y, .int .i64 z, .int .i64 n] 62)) := bal (Below.refl _ _) _
    have hgt : w.heap.size < (w.alloc (.cells #[.int .i64 k, .int .i64 v, .int .i64 x, .int .i64 y, .int .i64 z, .int .i64 n] 62)).heap.size := by simp
    generalize w.alloc (.cells #[.int .i64 k, .int .i64 v, .int .i64 x, .int .i64 y, .int .i64 z, .int .i64 n] 62) = wb at *
    go_region_held3 (fun w' => w'.cell? ⟨w.heap.size, 0, none⟩ = some (.int .i64 k) ∧ w'.cell? ⟨w.heap.size, 2, none⟩ = some (.int .i64 x) ∧ w'.cell? ⟨w.heap.size, 3, none⟩ = some (.int .i64 y) ∧ w'.cell? ⟨w.heap.size, 4, none⟩ = some (.int .i64 z)) (go_keep) ((go_at_call 73; refine (Hw.out _).mono ?_; rintro e w' ⟨rfl, rfl⟩))
    all_goals
      go_wp2
      go_ret
      refine ⟨wb.heap.size, Nat.le_of_lt hgt, rfl, ints3 _ (by omega) (by simp [go_sem]) (by simp [go_sem]) (by simp [go_sem]), ?_⟩
      exact (bal hbx _).drew


theorem operandsF_any (x : Nd) (w : World) :
    Calls Tryz.prog 76 #[.agg #[.int .i64 x.kind, .int .i64 x.width, .int .i64 x.a, .int .i64 x.b, .int .i64 x.c, .int .i64 x.n]] w fun e w' =>
      ∃ g, w.heap.size ≤ g ∧ e = .returned (.slice (some ⟨g, 0, none⟩) (opsL x).length 3) ∧ IntsAt w' (some ⟨g, 0, none⟩) (opsL x) ∧ Below w.heap.size w w' := by
  obtain ⟨h1, h2⟩ := takes_nat x.kind
  refine (operandsF_at x.kind x.width x.a x.b x.c x.n (takes x.kind).toNat h1 h2 w).mono ?_
  rintro e w' ⟨g, hg, rfl, hI, hb⟩
  exact ⟨g, hg, by rw [opsL_len], hI, hb⟩

set_option maxRecDepth 100000 in
set_option maxHeartbeats 4000000 in
theorem operate_any (m : Mv) (ns : List Nd) (hl : ns.length ≤ 80) (x : Nd) (k : Nat) (hk : k < ns.length) (hops : ∀ y ∈ opsL x, 0 ≤ y ∧ y < k) (cur : List Int) (hcur : cur.length = ns.length) (g : Nat) (w : World) (hN : NodesAt w m.a0 ns) (hR : IRow w g cur)
    (hfit : fitE x.kind x.width x.n (wds ns (takes x.kind) 0 x.a) (wds ns (takes x.kind) 1 x.b) (wds ns (takes x.kind) 2 x.c) = 0)
    (ha : isW (opv cur (takes x.kind) 0 x.a) (wds ns (takes x.kind) 0 x.a) = true) (hb : isW (opv cur (takes x.kind) 1 x.b) (wds ns (takes x.kind) 1 x.b) = true) (hc : isW (opv cur (takes x.kind) 2 x.c) (wds ns (takes x.kind) 2 x.c) = true) :
    Calls Tryz.prog 80 #[m.val ns.length, .agg #[.int .i64 x.kind, .int .i64 x.width, .int .i64 x.a, .int .i64 x.b, .int .i64 x.c, .int .i64 x.n], .slice (some ⟨g, 0, none⟩) ns.length ns.length] w fun e w' =>
      e = .returned (.int .i64 (madeE x.kind x.width (opv cur (takes x.kind) 0 x.a) (opv cur (takes x.kind) 1 x.b) (opv cur (takes x.kind) 2 x.c) x.n (wds ns (takes x.kind) 0 x.a) (wds ns (takes x.kind) 1 x.b))) ∧ Below w.heap.size w w' := by
  obtain ⟨a0, c0, a1, l1, c1, a2, l2, c2, a3, l3, c3, a4, l4, c4⟩ := m
  simp only at hN
  have HAP := hide (fun w => apply_right x.kind x.width (opv cur (takes x.kind) 0 x.a) (opv cur (takes x.kind) 1 x.b) (opv cur (takes x.kind) 2 x.c) x.n (wds ns (takes x.kind) 0 x.a) (wds ns (takes x.kind) 1 x.b) (wds ns (takes x.kind) 2 x.c) hfit ha hb hc w)
  have HGv : Hid (putL (fun y => cur.getD y.toNat 0) (opsL x) (opsL x).length = [opv cur (takes x.kind) 0 x.a, opv cur (takes x.kind) 1 x.b, opv cur (takes x.kind) 2 x.c]) := putL_all x _
  have HGw : Hid (putL (fun y => wdOf ns y) (opsL x) (opsL x).length = [wds ns (takes x.kind) 0 x.a, wds ns (takes x.kind) 1 x.b, wds ns (takes x.kind) 2 x.c]) := putL_all x _
  have HOI := hide (fun w => operandsF_any x w)
  have HLo : Hid ((opsL x).length ≤ 3) := by rw [opsL_len]; have := takes_four x.kind; simp only [Hid]; omega
  have HOps := hide hops
  have HN := hide hN
  have HR := hide hR
  have HC := hide hcur
  clear hfit ha hb hc hN hR hops hcur
  generalize madeE x.kind x.width (opv cur (takes x.kind) 0 x.a) (opv cur (takes x.kind) 1 x.b) (opv cur (takes x.kind) 2 x.c) x.n (wds ns (takes x.kind) 0 x.a) (wds ns (takes x.kind) 1 x.b) = made at *
  generalize opv cur (takes x.kind) 0 x.a = va at *
  generalize opv cur (takes x.kind) 1 x.b = vb at *
  generalize opv cur (takes x.kind) 2 x.c = vc at *
  generalize wds ns (takes x.kind) 0 x.a = wa at *
  generalize wds ns (takes x.kind) 1 x.b = wb at *
  generalize wds ns (takes x.kind) 2 x.c = wc at *
  generalize opsL x = L at *
  obtain ⟨kd, v, xa, xb, xc, n⟩ := x
  simp only at *
  have hb4 : Below w.heap.size w ((((w.alloc (.cells (Mv.cells ⟨a0, c0, a1, l1, c1, a2, l2, c2, a3, l3, c3, a4, l4, c4⟩ ns.length) 26)).alloc (.cells #[.int .i64 kd, .int .i64 v, .int .i64 xa, .int .i64 xb, .int .i64 xc, .int .i64 n] 62)).alloc (.cells #[.int .i64 0, .int .i64 0, .int .i64 0] 128)).alloc (.cells #[.int .i64 0, .int .i64 0, .int .i64 0] 128)) := bal (bal (bal (bal (Below.refl _ _) _) _) _) _
  have q0 : ((((w.alloc (.cells (Mv.cells ⟨a0, c0, a1, l1, c1, a2, l2, c2, a3, l3, c3, a4, l4, c4⟩ ns.length) 26)).alloc (.cells #[.int .i64 kd, .int .i64 v, .int .i64 xa, .int .i64 xb, .int .i64 xc, .int .i64 n] 62)).alloc (.cells #[.int .i64 0, .int .i64 0, .int .i64 0] 128)).alloc (.cells #[.int .i64 0, .int .i64 0, .int .i64 0] 128)).cell? ⟨w.heap.size, 0, none⟩ = some (.slice a0 ns.length c0) := by simp [go_sem]
  have t0 : ((((w.alloc (.cells (Mv.cells ⟨a0, c0, a1, l1, c1, a2, l2, c2, a3, l3, c3, a4, l4, c4⟩ ns.length) 26)).alloc (.cells #[.int .i64 kd, .int .i64 v, .int .i64 xa, .int .i64 xb, .int .i64 xc, .int .i64 n] 62)).alloc (.cells #[.int .i64 0, .int .i64 0, .int .i64 0] 128)).alloc (.cells #[.int .i64 0, .int .i64 0, .int .i64 0] 128)).cell? ⟨w.heap.size + 1, 0, none⟩ = some (.int .i64 kd) := by simp [go_sem]
  have t1 : ((((w.alloc (.cells (Mv.cells ⟨a0, c0, a1, l1, c1, a2, l2, c2, a3, l3, c3, a4, l4, c4⟩ ns.length) 26)).alloc (.cells #[.int .i64 kd, .int .i64 v, .int .i64 xa, .int .i64 xb, .int .i64 xc, .int .i64 n] 62)).alloc (.cells #[.int .i64 0, .int .i64 0, .int .i64 0] 128)).alloc (.cells #[.int .i64 0, .int .i64 0, .int .i64 0] 128)).cell? ⟨w.heap.size + 1, 1, none⟩ = some (.int .i64 v) := by simp [go_sem]
  have t5 : ((((w.alloc (.cells (Mv.cells ⟨a0, c0, a1, l1, c1, a2, l2, c2, a3, l3, c3, a4, l4, c4⟩ ns.length) 26)).alloc (.cells #[.int .i64 kd, .int .i64 v, .int .i64 xa, .int .i64 xb, .int .i64 xc, .int .i64 n] 62)).alloc (.cells #[.int .i64 0, .int .i64 0, .int .i64 0] 128)).alloc (.cells #[.int .i64 0, .int .i64 0, .int .i64 0] 128)).cell? ⟨w.heap.size + 1, 5, none⟩ = some (.int .i64 n) := by simp [go_sem]
  have HG0 : Hid (IRow ((((w.alloc (.cells (Mv.cells ⟨a0, c0, a1, l1, c1, a2, l2, c2, a3, l3, c3, a4, l4, c4⟩ ns.length) 26)).alloc (.cells #[.int .i64 kd, .int .i64 v, .int .i64 xa, .int .i64 xb, .int .i64 xc, .int .i64 n] 62)).alloc (.cells #[.int .i64 0, .int .i64 0, .int .i64 0] 128)).alloc (.cells #[.int .i64 0, .int .i64 0, .int .i64 0] 128)) (w.heap.size + 1 + 1) (putL (fun y => cur.getD y.toNat 0) L 0)) := by
    intro j hj
    match j, hj with
    | 0, _ => simp [go_sem, putL]
    | 1, _ => simp [go_sem, putL]
    | 2, _ => simp [go_sem, putL]
  have HW0 : Hid (IRow ((((w.alloc (.cells (Mv.cells ⟨a0, c0, a1, l1, c1, a2, l2, c2, a3, l3, c3, a4, l4, c4⟩ ns.length) 26)).alloc (.cells #[.int .i64 kd, .int .i64 v, .int .i64 xa, .int .i64 xb, .int .i64 xc, .int .i64 n] 62)).alloc (.cells #[.int .i64 0, .int .i64 0, .int .i64 0] 128)).alloc (.cells #[.int .i64 0, .int .i64 0, .int .i64 0] 128)) (w.heap.size + 1 + 1 + 1) (putL (fun y => wdOf ns y) L 0)) := by
    intro j hj
    match j, hj with
    | 0, _ => simp [go_sem, putL]
    | 1, _ => simp [go_sem, putL]
    | 2, _ => simp [go_sem, putL]
  have HR4 := hide (HR.out.later hb4)
  have hg : g < w.heap.size := World.block_lt_of_cell? _ _ (HR.out 0 (by rw [HC.out]; omega)).1
  have hs4 : w.heap.size + 1 + 1 + 1 < ((((w.alloc (.cells (Mv.cells ⟨a0, c0, a1, l1, c1, a2, l2, c2, a3, l3, c3, a4, l4, c4⟩ ns.length) 26)).alloc (.cells #[.int .i64 kd, .int .i64 v, .int .i64 xa, .int .i64 xb, .int .i64 xc, .int .i64 n] 62)).alloc (.cells #[.int .i64 0, .int .i64 0, .int .i64 0] 128)).alloc (.cells #[.int .i64 0, .int .i64 0, .int .i64 0] 128)).heap.size := by simp
  have HB4 := hide hb4
  clear hb4 HR
  go_enter Tryz.func80, Tryz.ntmps80
  go_wp2_with fail
  generalize ((((w.alloc (.cells (Mv.cells ⟨a0, c0, a1, l1, c1, a2, l2, c2, a3, l3, c3, a4, l4, c4⟩ ns.length) 26)).alloc (.cells #[.int .i64 kd, .int .i64 v, .int .i64 xa, .int .i64 xb, .int .i64 xc, .int .i64 n] 62)).alloc (.cells #[.int .i64 0, .int .i64 0, .int .i64 0] 128)).alloc (.cells #[.int .i64 0, .int .i64 0, .int .i64 0] 128)) = w4 at *
  refine (HOI.out _).mono ?_
  rintro e w5 ⟨h, hh, rfl, hI, hb5⟩
  have HI := hide hI
  have HB5 := hide (bthen HB4.out hb5)
  have HG5 := hide (HG0.out.later hb5)
  have HW5 := hide (HW0.out.later hb5)
  have HR5 := hide (HR4.out.later hb5)
  have u0 := cell_later hb5 q0
  have u1 := cell_later hb5 t0
  have u2 := cell_later hb5 t1
  have u3 := cell_later hb5 t5
  clear hI hb5 HG0 HW0 HR4 q0 t0 t1 t5 HB4 HOI
  generalize hN1 : w.heap.size + 1 + 1 = N2 at *
  generalize hN2 : N2 + 1 = N3 at *
  have hne : ¬ N2 = N3 ∧ ¬ g = N2 ∧ ¬ g = N3 ∧ ¬ h = N2 ∧ ¬ h = N3 ∧ ¬ w.heap.size = N2 ∧ ¬ w.heap.size = N3 ∧ ¬ w.heap.size + 1 = N2 ∧ ¬ w.heap.size + 1 = N3 := by omega
  obtain ⟨e1, e2, e3, e4, e5, e6, e7, e8, e9⟩ := hne
  have hN2' : w.heap.size ≤ N2 := by omega
  have hN3' : w.heap.size ≤ N3 := by omega
  clear hN1 hN2 hh hs4
  go_wp2
  go_loopw [16] (fun i wr => ∃ j : Nat, j ≤ L.length ∧ i = .int .i64 j ∧ Below w.heap.size w wr ∧ Hid (IRow wr N2 (putL (fun y => cur.getD y.toNat 0) L j)) ∧ Hid (IRow wr N3 (putL (fun y => wdOf ns y) L j)) ∧ Hid (IRow wr g cur) ∧ Hid (IntsAt wr (some ⟨h, 0, none⟩) L) ∧ wr.cell? ⟨w.heap.size, 0, none⟩ = some (.slice a0 ns.length c0) ∧ wr.cell? ⟨w.heap.size + 1, 0, none⟩ = some (.int .i64 kd) ∧ wr.cell? ⟨w.heap.size + 1, 1, none⟩ = some (.int .i64 v) ∧ wr.cell? ⟨w.heap.size + 1, 5, none⟩ = some (.int .i64 n)) (fun i _ => L.length - (intOf i).toNat)
  case atStart => exact ⟨0, Nat.zero_le _, rfl, HB5.out, HG5, HW5, HR5, HI, u0, u1, u2, u3⟩
  case round =>
    clear u0 u1 u2 u3
    obtain ⟨j, hj, rfl, hbw, hG, hWd, hRw, hIL, u0, u1, u2, u3⟩ := hrel
    by_cases hlt : j < L.length
    · obtain ⟨b, off, hp, hcl⟩ := hIL.out (by omega)
      obtain ⟨rfl, rfl⟩ : h = b ∧ 0 = off := by injection hp with hp; injection hp with h1 h2; exact ⟨h1, h2⟩
      have d0 := hcl j hlt
      rw [Nat.zero_add] at d0
      obtain ⟨y0, y1⟩ := HOps.out L[j] (List.getElem_mem hlt)
      have hjl : (j : Int) < (L.length : Int) := by omega
      have hj3 : j < 3 := by have := HLo.out; omega
      have d1 := hRw.out.at L[j] y0 (by rw [HC.out]; omega)
      obtain ⟨nb, noff, rfl, hnc⟩ := HN.out (by omega)
      have hnb : nb < w.heap.size := World.block_lt_of_cell? _ _ (hnc 0 (by omega)).1
      have d2 := cell_later hbw (kd_wd hnc L[j] y0 (by omega)).2
      have f1 : ¬ nb = N2 := by omega
      have f2 : ¬ nb = N3 := by omega
      obtain ⟨g1, g2⟩ := hG.out j (by rw [putL_len HLo.out (by omega)]; omega)
      obtain ⟨g3, g4⟩ := hWd.out j (by rw [putL_len HLo.out (by omega)]; omega)
      have HS1 := hide (putL_set (f := fun y => cur.getD y.toNat 0) HLo.out hlt)
      have HS2 := hide (putL_set (f := fun y => wdOf ns y) HLo.out hlt)
      have hyn : L[j] < (ns.length : Int) := by omega
      generalize (putL (fun y => cur.getD y.toNat 0) L j)[j]'(by rw [putL_len HLo.out (by omega)]; omega) = old1 at *
      generalize (putL (fun y => wdOf ns y) L j)[j]'(by rw [putL_len HLo.out (by omega)]; omega) = old2 at *
      clear hnc hcl hp
      generalize L[j] = y at *
      generalize cur.getD y.toNat 0 = cv at *
      generalize wdOf ns y = wd at *
      have hj22 : (j : Int) < 3 := by omega
      have HFA : Hid (Below w.heap.size w ((wr.setCell ⟨N2, j, none⟩ (.int .i64 cv)).setCell ⟨N3, j, none⟩ (.int .i64 wd)).drew ∧ Hid (IRow ((wr.setCell ⟨N2, j, none⟩ (.int .i64 cv)).setCell ⟨N3, j, none⟩ (.int .i64 wd)).drew N2 (putL (fun y => cur.getD y.toNat 0) L (j + 1))) ∧ Hid (IRow ((wr.setCell ⟨N2, j, none⟩ (.int .i64 cv)).setCell ⟨N3, j, none⟩ (.int .i64 wd)).drew N3 (putL (fun y => wdOf ns y) L (j + 1))) ∧ Hid (IRow ((wr.setCell ⟨N2, j, none⟩ (.int .i64 cv)).setCell ⟨N3, j, none⟩ (.int .i64 wd)).drew g cur) ∧ Hid (IntsAt ((wr.setCell ⟨N2, j, none⟩ (.int .i64 cv)).setCell ⟨N3, j, none⟩ (.int .i64 wd)).drew (some ⟨h, 0, none⟩) L) ∧ ((wr.setCell ⟨N2, j, none⟩ (.int .i64 cv)).setCell ⟨N3, j, none⟩ (.int .i64 wd)).drew.cell? ⟨w.heap.size, 0, none⟩ = some (.slice (some ⟨nb, noff, none⟩) ns.length c0) ∧ ((wr.setCell ⟨N2, j, none⟩ (.int .i64 cv)).setCell ⟨N3, j, none⟩ (.int .i64 wd)).drew.cell? ⟨w.heap.size + 1, 0, none⟩ = some (.int .i64 kd) ∧ ((wr.setCell ⟨N2, j, none⟩ (.int .i64 cv)).setCell ⟨N3, j, none⟩ (.int .i64 wd)).drew.cell? ⟨w.heap.size + 1, 1, none⟩ = some (.int .i64 v) ∧ ((wr.setCell ⟨N2, j, none⟩ (.int .i64 cv)).setCell ⟨N3, j, none⟩ (.int .i64 wd)).drew.cell? ⟨w.heap.size + 1, 5, none⟩ = some (.int .i64 n)) :=
        ⟨((hbw.setCell hN2' _).setCell hN3' _).drew, by rw [← HS1.out]; exact (hG.out.set j cv).other e1 j _, by rw [← HS2.out]; exact (hWd.out.other (fun e => e1 e.symm) j _).set j wd, (hRw.out.other e2 j _).other e3 j _, ints_other (ints_other hIL.out e4) e5, keepOther e7 (keepOther e6 u0), keepOther e9 (keepOther e8 u1), keepOther e9 (keepOther e8 u2), keepOther e9 (keepOther e8 u3)⟩
      go_wp2
      go_region
      all_goals
        clear hG hWd hRw hIL
        go_wp2
        go_roundw
        case rel => first | exact ⟨j + 1, by omega, by go_num, HFA.out⟩ | ((repeat apply Exists.intro); exact ⟨⟨j + 1, by omega, by go_num, HFA.out⟩, rfl⟩)
        case measure => simp [intOf]; omega
    · obtain rfl : j = L.length := by omega
      have hGv := hG.out
      have hWv := hWd.out
      rw [HGv.out] at hGv
      rw [HGw.out] at hWv
      have r0 := (hGv 0 (by simp)).1
      have r1 := (hGv 1 (by simp)).1
      have r2 := (hGv 2 (by simp)).1
      have s0 := (hWv 0 (by simp)).1
      have s1 := (hWv 1 (by simp)).1
      have s2 := (hWv 2 (by simp)).1
      simp only [List.getElem_cons_zero, List.getElem_cons_succ] at r0 r1 r2 s0 s1 s2
      clear hG hWd hRw hIL hGv hWv HGv HGw
      go_wp2_with fail
      refine (HAP.out _).mono ?_
      rintro e w7 ⟨rfl, hb7⟩
      go_wp2
      go_ret
      exact ⟨rfl, bthen hbw hb7⟩

end Go.Proofs.YtfobcnhibhbbaaaGreatDoor.Ev
