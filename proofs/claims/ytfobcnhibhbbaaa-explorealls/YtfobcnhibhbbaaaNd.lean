/- The plain text: nodes of a kind, their bits; lists that are the same. -/
import Derived.Test.YtfobcnhibhbbaaaMn
namespace Go.Proofs.Ytfobcnhibhbbaaa
open Go.RowKit
set_option maxRecDepth 100000

set_option maxRecDepth 100000 in
set_option maxHeartbeats 1000000 in
theorem nodesR_any (m : Mv) (ns : List Nd) (hl : ns.length ≤ 2932031007402) (kind : Int) (w : World) (hN : NodesAt w m.a0 ns) :
    Calls Try.prog 22 #[m.val ns.length, .int .i64 kind] w fun e w' =>
      ∃ p cap, e = .returned (.slice p (sel (isK ns kind) ns.length).length cap) ∧ IntsAt w' p (sel (isK ns kind) ns.length) ∧ Below w.heap.size w w' := by
  obtain ⟨i0, hi, hz0, hz1, hz2⟩ := info_parts info3
  obtain ⟨a0, c0, a1, l1, c1, a2, l2, c2, a3, l3, c3, a4, l4, c4⟩ := m
  simp only at hN
  have HBx := hide (Box.new w ⟨a0, c0, a1, l1, c1, a2, l2, c2, a3, l3, c3, a4, l4, c4⟩ ns.length)
  go_enter Try.func22, Try.ntmps22
  go_wp2
  go_loopw [5, 6] (fun v i wr => ∃ k : Nat, k ≤ ns.length ∧ i = .int .i64 k ∧ wr.ownsRow (w.heap.size + 1) 3 1 v (sel (isK ns kind) k).length ((sel (isK ns kind) k).map (Value.int .i64)) ∧ Below (w.heap.size + 1) (w.alloc (.cells (Mv.cells ⟨a0, c0, a1, l1, c1, a2, l2, c2, a3, l3, c3, a4, l4, c4⟩ ns.length) 26)) wr) (fun _ i _ => ns.length - (intOf i).toNat)
  case atStart => exact ⟨0, Nat.zero_le _, rfl, World.ownsRow_nil _ _ _ _, Below.refl _ _⟩
  case round =>
    obtain ⟨k, hk, rfl, hown, hnx⟩ := hrel
    have hbw : Below w.heap.size w wr := (bal (Below.refl _ _) _).trans (hnx.mono (by omega))
    have hsz := hnx.size
    have hbx := HBx.out.1
    have q0 : wr.cell? ⟨w.heap.size, 0, none⟩ = some (.slice a0 ns.length c0) := (hnx.cell (show w.heap.size < w.heap.size + 1 from by omega)).trans hbx
    clear hbx
    by_cases hlt : k < ns.length
    · obtain ⟨b, off, rfl, hc⟩ := (hN.later hbw) (by omega)
      have d0 := (hc k hlt).1
      have HI := hide (isK_at (kind := kind) hlt)
      clear hc
      generalize ns[k] = nd at *
      obtain ⟨kd, v, x, y, z, n⟩ := nd
      simp only at *
      cases hf : (kd == kind)
      · have HS : Hid (sel (isK ns kind) (k + 1) = sel (isK ns kind) k) := sel_no (by rw [HI.out, hf])
        clear HI
        go_wp2
        go_roundw
        case rel => exact ⟨k + 1, by omega, by go_num, by rw [HS.out]; exact hown, hnx⟩
        case measure => simp [intOf]; omega
      · have HS : Hid (sel (isK ns kind) (k + 1) = sel (isK ns kind) k ++ [(k : Int)]) := sel_yes (by rw [HI.out, hf])
        have hsl := sel_len (isK ns kind) k
        clear HI
        generalize sel (isK ns kind) k = l at *
        go_wp2_with (at_builtin; refine wpList_append_own _ rfl _ _ 24 rfl (w.heap.size + 1) 3 i0 (.int .i64 0) 1 8 Try.underlying24 hi hz0 hz1 hz2 rfl (by decide) _ _ _ rfl (hown.alloc _) ⟨wr.heap.size, 0, none⟩ 1 1 [.int .i64 (k : Int)] rfl rfl ?c1 ?c2 ?c3 ?c4 ?c5 ?_)
        case c1 =>
          intro j u hj
          match j, hj with
          | 0, hj => simp at hj; subst hj; simp [Addr.add]
        case c2 => intro u hu; simp at hu; subst hu; rfl
        case c3 => unfold maxLen; omega
        case c4 => omega
        case c5 => simp; simp at hsz; omega
        intro v' w1 hown' hgrow _
        have R := owns_later hown hown' hgrow hnx (by simp at hsz; omega)
        rw [← HS.out] at R
        clear hown' hgrow hown
        go_wp2
        go_roundw
        case rel => exact ⟨k + 1, by omega, by go_num, R.1, R.2⟩
        case measure => simp [intOf]; omega
    · obtain rfl : k = ns.length := by omega
      obtain ⟨p, cap, rfl, hI⟩ := owns_ints hown
      go_wp2
      go_ret
      exact ⟨p, cap, rfl, hI, hbw⟩

/-- The bits of the first k nodes of a kind. -/
theorem sum_sel (ns : List Nd) (kind : Int) (k : Nat) : sumW ns (sel (isK ns kind) (k + 1)) = sumW ns (sel (isK ns kind) k) + if isK ns kind k then wdOf ns k else 0 := by
  cases h : isK ns kind k
  · rw [sel_no h]; simp
  · rw [sel_yes h]
    unfold sumW
    simp only [List.map_append, List.sum_append, List.map_cons, List.map_nil, List.sum_cons, List.sum_nil]
    simp

theorem sum_sel_bd {ns : List Nd} (h : Wok ns) (kind : Int) (k : Nat) : 0 ≤ sumW ns (sel (isK ns kind) k) ∧ sumW ns (sel (isK ns kind) k) ≤ 8 * k := by
  induction k with
  | zero => simp [sumW, sel]
  | succ k ih =>
    rw [sum_sel]
    have := wdOf_bd h k
    split <;> omega

set_option maxRecDepth 100000 in
set_option maxHeartbeats 1000000 in
theorem bitsR_any (m : Mv) (ns : List Nd) (hl : ns.length ≤ 80) (hW : Wok ns) (kind : Int) (w : World) (hN : NodesAt w m.a0 ns) :
    Calls Try.prog 19 #[m.val ns.length, .int .i64 kind] w fun e w' => e = .returned (.int .i64 (sumW ns (sel (isK ns kind) ns.length))) ∧ Below w.heap.size w w' := by
  obtain ⟨a0, c0, a1, l1, c1, a2, l2, c2, a3, l3, c3, a4, l4, c4⟩ := m
  simp only at hN
  have HW := hide hW
  have HBx := hide (Box.new w ⟨a0, c0, a1, l1, c1, a2, l2, c2, a3, l3, c3, a4, l4, c4⟩ ns.length)
  have hb0 : Below w.heap.size w (w.alloc (.cells (Mv.cells ⟨a0, c0, a1, l1, c1, a2, l2, c2, a3, l3, c3, a4, l4, c4⟩ ns.length) 26)) := bal (Below.refl _ _) _
  have HB0 := hide hb0
  clear hW hb0
  go_enter Try.func19, Try.ntmps19
  go_wp2
  go_loopw [5, 6] (fun s i wr => ∃ k : Nat, k ≤ ns.length ∧ i = .int .i64 k ∧ s = .int .i64 (sumW ns (sel (isK ns kind) k)) ∧ Below w.heap.size w wr ∧ wr.cell? ⟨w.heap.size, 0, none⟩ = some (.slice a0 ns.length c0)) (fun _ i _ => ns.length - (intOf i).toNat)
  case atStart => exact ⟨0, Nat.zero_le _, rfl, rfl, HB0.out, HBx.out.1⟩
  case round =>
    obtain ⟨k, hk, rfl, rfl, hbw, q0⟩ := hrel
    by_cases hlt : k < ns.length
    · obtain ⟨b, off, rfl, hc⟩ := (hN.later hbw) (by omega)
      have hkw := kd_wd hc (k : Int) (by omega) (by omega)
      simp only [Int.toNat_natCast] at hkw
      obtain ⟨d0, d1⟩ := hkw
      have HI : Hid (isK ns kind k = (kdOf ns k == kind)) := by
        unfold isK kdOf
        rw [Int.toNat_natCast, List.getElem?_eq_getElem hlt]
        rfl
      have HS := hide (sum_sel ns kind k)
      have hsb := sum_sel_bd HW.out kind k
      have hwb := wdOf_bd HW.out (k : Int)
      clear hc
      generalize kdOf ns k = kd at *
      generalize wdOf ns k = wd at *
      cases hf : (kd == kind)
      · have HS2 : Hid (sumW ns (sel (isK ns kind) (k + 1)) = sumW ns (sel (isK ns kind) k)) := by rw [HS.out, HI.out, hf]; simp [Hid]
        clear HS HI
        go_wp2
        go_roundw
        case rel => exact ⟨k + 1, by omega, by go_num, by rw [HS2.out], hbw, q0⟩
        case measure => simp [intOf]; omega
      · have HS2 : Hid (sumW ns (sel (isK ns kind) (k + 1)) = sumW ns (sel (isK ns kind) k) + wd) := by rw [HS.out, HI.out, hf]; simp [Hid]
        clear HS HI
        go_wp2
        go_roundw
        case rel => exact ⟨k + 1, by omega, by go_num, by rw [HS2.out], hbw, q0⟩
        case measure => simp [intOf]; omega
    · obtain rfl : k = ns.length := by omega
      go_wp2
      go_ret
      exact ⟨rfl, hbw⟩

end Go.Proofs.Ytfobcnhibhbbaaa
