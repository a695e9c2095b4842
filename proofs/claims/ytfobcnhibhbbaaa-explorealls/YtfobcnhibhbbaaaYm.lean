/- The plain text: the number of words. -/
import Derived.Test.YtfobcnhibhbbaaaYl
namespace Go.Proofs.Ytfobcnhibhbbaaa.Xp
open Go.RowKit Go.Maps
set_option maxRecDepth 100000

/-- A word of each node, as wide as it may be. -/
theorem fitL_at {ns : List Nd} {S l : List Int} (h : FitL (S.map (wdOf ns)) l) : l.length = S.length ∧ ∀ k, k < S.length → 0 ≤ l.getD k 0 ∧ l.getD k 0 < two (wdOf ns (S.getD k 0)) := by
  induction S generalizing l with
  | nil => cases l with
    | nil => exact ⟨rfl, fun k hk => by simp at hk⟩
    | cons a l => exact h.elim
  | cons s S ih =>
    cases l with
    | nil => exact h.elim
    | cons a l =>
      obtain ⟨h1, h2, h3⟩ := h
      obtain ⟨e, hf⟩ := ih h3
      refine ⟨by simp [e], fun k hk => ?_⟩
      cases k with
      | zero => exact ⟨h1, h2⟩
      | succ k => exact hf k (by simpa using hk)
theorem numK_bd {ns : List Nd} (hW : Wok ns) {S l : List Int} (h : FitL (S.map (wdOf ns)) l) (k : Nat) (hk : k ≤ S.length) : (numK ns S l k).2 = two (sumW ns (S.take k)) ∧ 0 ≤ (numK ns S l k).1 ∧ (numK ns S l k).1 < (numK ns S l k).2 := by
  induction k with
  | zero => exact ⟨rfl, Int.le_refl _, show (0 : Int) < 1 by decide⟩
  | succ k ih =>
    obtain ⟨h1, h2, h3⟩ := ih (by omega)
    obtain ⟨g1, g2⟩ := (fitL_at h).2 k (by omega)
    have hs := sumW_take ns S k (by omega)
    have hb := (sumW_bd hW S k).1
    have hd := (wdOf_bd hW S[k]).1
    have ht := two_pos (wdOf ns (S.getD k 0))
    rw [numK]
    refine ⟨?_, ?_, ?_⟩
    · show (numK ns S l k).2 * two (wdOf ns (S.getD k 0)) = _
      rw [hs, h1, getD_at (by omega)]
      unfold two
      rw [Int.toNat_add hb hd, Int.pow_add]
    · show 0 ≤ (numK ns S l k).1 + l.getD k 0 * (numK ns S l k).2
      have := Int.mul_nonneg g1 (show 0 ≤ (numK ns S l k).2 by omega)
      omega
    · show (numK ns S l k).1 + l.getD k 0 * (numK ns S l k).2 < (numK ns S l k).2 * two (wdOf ns (S.getD k 0))
      have := Int.mul_le_mul_of_nonneg_right (show l.getD k 0 + 1 ≤ two (wdOf ns (S.getD k 0)) by omega) (show 0 ≤ (numK ns S l k).2 by omega)
      rw [Int.add_mul, Int.one_mul, Int.mul_comm (two _)] at this
      omega
theorem sumW_le {ns : List Nd} (hW : Wok ns) (S : List Int) (k : Nat) : sumW ns (S.take k) ≤ sumW ns S := by
  have e : sumW ns S = sumW ns (S.take k) + sumW ns (S.drop k) := by
    unfold sumW
    rw [← List.sum_append, ← List.map_append, List.take_append_drop]
  have := (allL_sum ns hW (S.drop k)).1
  omega
set_option maxHeartbeats 4000000 in
theorem numberOf_any (m : Mv) (ns : List Nd) (hl : ns.length ≤ 80) (hW : Wok ns) (kind : Int) (hNb : sumW ns (sel (isK ns kind) ns.length) ≤ 10) (l : List Int) (hF : FitL ((sel (isK ns kind) ns.length).map (wdOf ns)) l) (p : Option Addr) (cap : Nat) (w : World) (hN : NodesAt w m.a0 ns) (hI : IntsAt w p l) :
    Calls Try.prog 12 #[m.val ns.length, .int .i64 kind, .slice p l.length cap] w fun e w' => e = .returned (.int .i64 (numL ((sel (isK ns kind) ns.length).map (wdOf ns)) l)) ∧ Below w.heap.size w w' := by
  have HBx := hide (Box.new w m ns.length)
  have HB0 : Hid (Below w.heap.size w (w.alloc (.cells (m.cells ns.length) 26))) := bal (Below.refl _ _) _
  have HK := hide (nodesR_any m ns (by omega) kind _ (hN.later HB0.out))
  have hsl := sel_len (isK ns kind) ns.length
  have HSB : Hid (∀ k (h : k < (sel (isK ns kind) ns.length).length), 0 ≤ (sel (isK ns kind) ns.length)[k] ∧ (sel (isK ns kind) ns.length)[k] < ns.length) := fun k h => sel_bd h
  have HF := hide hF
  have HW := hide hW
  have HN := hide hN
  have HI := hide hI
  have HNB := hide hNb
  have hll := (fitL_at hF).1
  clear hF hW hN hI hNb
  generalize sel (isK ns kind) ns.length = S at *
  have HNL := hide (numK_L ns S l hll).1
  go_enter Try.func12, Try.ntmps12
  go_wp2_with fail
  refine HK.out.mono ?_
  rintro e w1 ⟨ps, cs, rfl, hIs, hb1⟩
  have HB1 := hide (bthen HB0.out hb1)
  have HX1 := hide (HBx.out.later hb1)
  have HIS := hide hIs
  obtain ⟨q0, _⟩ := HX1.out
  clear hb1 hIs HB0 HBx HK HX1
  go_wp2
  go_loopw [7, 8, 10] (fun a b i wr => ∃ k : Nat, k ≤ S.length ∧ i = .int .i64 k ∧ a = .int .i64 (numK ns S l k).1 ∧ b = .int .i64 (numK ns S l k).2 ∧ Below w1.heap.size w1 wr) (fun _ _ i _ => S.length - (intOf i).toNat)
  case atStart => exact ⟨0, Nat.zero_le _, rfl, rfl, rfl, Below.refl _ _⟩
  case round =>
    obtain ⟨k, hk, rfl, rfl, rfl, hbr⟩ := hrel
    have HBR := hide hbr
    by_cases hlt : k < S.length
    · obtain ⟨sb, so, rfl, hsc⟩ := HIS.out (by omega)
      have s0 := cell_later hbr (hsc k hlt)
      obtain ⟨lb, lo, rfl, hlc⟩ := HI.out (by omega)
      have l0 := cell_later hbr (cell_later HB1.out (hlc k (by omega)))
      have r0 := cell_later hbr q0
      obtain ⟨z0, z1⟩ := HSB.out k hlt
      have hwb := wdOf_bd HW.out S[k]
      obtain ⟨nb, no, hp, hnc⟩ := HN.out (by omega)
      have n1 := cell_later hbr (cell_later HB1.out (kd_wd hnc S[k] z0 z1).2)
      rw [hp] at r0
      have hkb := numK_bd HW.out HF.out k hk
      have hkc := numK_bd HW.out HF.out (k + 1) (by omega)
      have hs1 : (numK ns S l k).2 ≤ 1024 := by
        rw [hkb.1]
        have h0 := (sumW_bd HW.out S k).1
        have := two_le (sumW ns (S.take k)).toNat 10 (by have := sumW_le HW.out S k; have := HNB.out; omega)
        rw [show (((sumW ns (S.take k)).toNat : Nat) : Int) = sumW ns (S.take k) by omega] at this
        exact this
      have hs2 : (numK ns S l (k + 1)).2 ≤ 1024 := by
        rw [hkc.1]
        have h0 := (sumW_bd HW.out S (k + 1)).1
        have := two_le (sumW ns (S.take (k + 1))).toNat 10 (by have := sumW_le HW.out S (k + 1); have := HNB.out; omega)
        rw [show (((sumW ns (S.take (k + 1))).toNat : Nat) : Int) = sumW ns (S.take (k + 1)) by omega] at this
        exact this
      have e1 : (numK ns S l (k + 1)).1 = (numK ns S l k).1 + l[k] * (numK ns S l k).2 := by rw [numK, getD_at (by omega)]
      have e2 : (numK ns S l (k + 1)).2 = (numK ns S l k).2 * two (wdOf ns S[k]) := by rw [numK]; show _ * two (wdOf ns (S.getD k 0)) = _; rw [getD_at hlt]
      have hkb2 := hkb.2
      have hkc2 := hkc.2
      have HT := hide (fun w' => two_any (wdOf ns S[k]) (by omega) (by omega) w')
      have HE := hide (And.intro e1 e2)
      rw [e1, e2] at hkc2
      rw [e2] at hs2
      have hmul : 0 ≤ l[k] * (numK ns S l k).2 := Int.mul_nonneg (by have := ((fitL_at HF.out).2 k hlt).1; rw [getD_at (by omega)] at this; exact this) (by omega)
      clear hkb hkc e1 e2 hsc hlc hnc hbr q0
      generalize (numK ns S l k).1 = x at *
      generalize (numK ns S l k).2 = y at *
      generalize wdOf ns S[k] = wd at *
      generalize S[k] = sk at *
      generalize l[k] = lk at *
      generalize two wd = t at *
      go_wp2_with fail
      go_region_held3 (fun w' => w' = wr.drew)
        (first | rfl | go_keep)
        ((go_at_call 23; refine (HT.out _).mono ?_; rintro e w2 ⟨rfl, rfl⟩))
      rw [show IntKind.i64.wrap (y * t) = y * t by rw [IntWalk.i64_left, IntWalk.wrap64_in _ (by omega)]]
      go_wp2
      go_roundw
      case rel => exact ⟨_, _, _, ⟨k + 1, by omega, by go_num, by rw [HE.out.1], by rw [HE.out.2], HBR.out.drew⟩, rfl, rfl, rfl⟩
      case measure => simp [intOf]; omega
    · obtain rfl : k = S.length := by omega
      go_wp2
      go_ret
      exact ⟨ret_int HNL.out, (bthen HB1.out HBR.out)⟩
end Go.Proofs.Ytfobcnhibhbbaaa.Xp
