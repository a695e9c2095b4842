/- Steps, unrolled: what states begin as. -/
import Derived.Test.YtjhkecnnhddhbaaGreatDoorKe
namespace Go.Proofs.YtjhkecnnhddhbaaGreatDoor
open Go.RowKit Go.Maps Go.WideMaps
set_option maxRecDepth 100000
set_option autoImplicit false

set_option maxHeartbeats 8000000 in
theorem beginsMake_any (w0 : World) (M : Nat) (C : Ci) (last : Nat) (hC : COk w0 C last) (U G : Nat) (w : World) (v : Value) (vars : Int) (rs : List Row)
    (hU : Un w0 w M v vars rs C last) (hB : Bxs w v M [(⟨U, 0, none⟩, .pointer (some ⟨M, 0, none⟩)), (⟨G, 0, none⟩, C.i.v)]) (hl : rs.length + (beginsT C).length ≤ 800000) :
    Calls Tryz.prog 51 #[.pointer (some ⟨G, 0, none⟩), .pointer (some ⟨U, 0, none⟩)] w (MkOut w0 w M v (vars + 0) rs (beginsT C) C last) := by
  have ht2 := hC.tf (show 0 ≤ last by omega)
  have hf := hC.f0
  have hpl := hC.pl
  have hla := hC.la
  have hil := hC.il
  have hsm := hC.sm
  have hi1 := hC.i1
  have ha0 := hC.a0
  have hfe : C.f = C.ins + C.ps.length := rfl
  have HB := hide hB
  have HU := hide hU
  have HC := hide hC
  have HL : Hid (∀ k, k ≤ C.i.ns.length → (stepsL (beginC C) k).length ≤ (beginsT C).length) := fun k hk => stepsL_mono _ hk
  have HSU : Hid (∀ k, stepsL (beginC C) (k + 1) = stepsL (beginC C) k ++ (if C.i.ns.getD k 0 = -1 then [] else sameC (stL C.f C.a 0 k) (C.i.ns.getD k 0))) := fun k => stepsL_succ _ k
  have g0 := (hB _ _ (.tail _ (.head _))).1
  have hZ : Hid (beginsT C = stepsL (beginC C) C.i.ns.length) := rfl
  generalize beginsT C = Z at *
  clear hB hU hC
  simp only [Sl.v] at g0
  obtain ⟨pp, HPP⟩ : ∃ pp, Hid (C.i.at' = pp) := ⟨_, rfl⟩
  rw [HPP.out] at g0
  go_enter Tryz.func51, Tryz.ntmps51
  go_wp2
  go_loopw [6] (fun i wr => ∃ k : Nat, k ≤ C.i.ns.length ∧ i = .int .i64 k ∧ Hid (∃ v' rs', numsOf rs' = numsOf rs ++ stepsL (beginC C) k ∧ Un w0 wr M v' vars rs' C last ∧ Kp M w v wr v')) (fun i _ => C.i.ns.length - (intOf i).toNat)
  case atStart => exact ⟨0, Nat.zero_le _, rfl, v, rs, by simp [stepsL], HU.out, Kp.refl _ _ _⟩
  case round =>
    obtain ⟨k, hk, rfl, HR⟩ := hrel
    obtain ⟨v1, rs1, hn1, hU1, hk1⟩ := HR.out
    by_cases hlt : k < C.i.ns.length
    · have hki : (k : Int) < (C.i.ns.length : Int) := by omega
      have b1 := ((HB.out.kp hk1) _ _ (.head _)).1
      have hle := HL.out (k + 1) (by omega)
      have hbn := HC.out.ni _ (getD_mem' hlt)
      obtain ⟨gb, goff, hge, hgc⟩ := (HC.out.at'.i.later hU1.bl) (by omega)
      have gk := hgc k hlt
      obtain rfl : pp = some ⟨gb, goff, none⟩ := HPP.out.symm.trans hge
      clear hge
      rw [show C.i.ns[k] = C.i.ns.getD k 0 by simp [List.getD, List.getElem?_eq_getElem hlt]] at gk
      have HSK := hide (HSU.out k)
      have hln := numsOf_lenE hn1
      rw [List.length_append, numsOf_len] at hln
      generalize C.i.ns.getD k 0 = z at *
      by_cases hz : z = -1
      · have HS2 : Hid (stepsL (beginC C) (k + 1) = stepsL (beginC C) k) := by unfold Hid; rw [HSK.out, if_pos hz]; simp
        have HR4 := hide (show ∃ v' rs', numsOf rs' = numsOf rs ++ stepsL (beginC C) (k + 1) ∧ Un w0 wr M v' vars rs' C last ∧ Kp M w v wr v' from ⟨v1, rs1, by rw [HS2.out]; exact hn1, hU1, hk1⟩)
        subst hz
        clear hgc hn1 hU1 hk1 HR hle hln HSK hbn
        go_wp2
        go_roundw
        case rel => exact ⟨k + 1, by omega, by go_num, HR4⟩
        case measure => simp [intOf]; omega
      · have HS2 : Hid (stepsL (beginC C) (k + 1) = stepsL (beginC C) k ++ sameC (stL C.f C.a 0 k) z) := by unfold Hid; rw [HSK.out, if_neg hz]
        rw [HS2.out, List.length_append] at hle
        have hzb : (z != -1) = true := by simpa using hz
        have hz2 := hbn.resolve_left hz
        have hst := stL_bd (f := C.f) (a := C.a) (t := 0) (i := k) ht2.1 ht2.2 ha0 (by omega)
        have HSA := hide (fun w' (hb : Below wr.heap.size wr w') => state_any M C last 0 k (by omega) hi1 (by omega) ha0 (by omega) (by omega) ht2.1 (by omega) w' (hU1.un.later hb))
        have HSM := hide (fun w' (hb : Below wr.heap.size wr w') => sameM_any w0.heap.size M v1 vars rs1 (by omega) (stL C.f C.a 0 k) z (by omega) (by omega) (by omega) (by omega) w' (by have := hU1.sz; have := hb.size; omega) (hU1.cm.below hb))
        have HN1 := hide hn1
        have HU1 := hide hU1
        have HK1 := hide hk1
        have hbd : Below wr.heap.size wr wr.drew := (Below.refl _ wr).drew
        have hxU : ∀ w' v', Kp M wr v1 w' v' → w'.cell? ⟨U, 0, none⟩ = some (.pointer (some ⟨M, 0, none⟩)) := fun w' v' hk => (((HB.out.kp hk1).kp hk) _ _ (.head _)).1
        have HXU := hide hxU
        rw [show ((0 : Nat) : Int) = (0 : Int) by omega] at HSA
        generalize stL C.f C.a 0 k = x at *
        clear hgc hxU hn1 hU1 hk1 HR hst hbn hle hln hz HSK
        go_wp2
        go_region_held3 (fun w' => w'.cell? ⟨U, 0, none⟩ = some (.pointer (some ⟨M, 0, none⟩)))
          (first | exact HXU.out _ _ hk4 | exact cell_later hbB b1 | exact cell_later hbd b1 | go_keep)
          (first
            | (go_at_call 41; have hq := hbB; refine (HSM.out _ hbB).mono ?_; rintro e w4 ⟨rfl, v4, rs4, hn4, hc4, hb4, hk4'⟩; have hk4 := (Kp.later (M := M) (v := v1) hbB).trans hk4')
            | (go_at_call 42; refine (HSA.out _ hbd).mono ?_; rintro e wB ⟨rfl, hb⟩; have hbB := bthen hbd hb))
        all_goals
          rename_i hHeld
          have HR4 := hide (show ∃ v' rs', numsOf rs' = numsOf rs ++ stepsL (beginC C) (k + 1) ∧ Un w0 w4 M v' vars rs' C last ∧ Kp M w v w4 v' from ⟨v4, rs4, by rw [hn4, HN1.out, HS2.out, List.append_assoc], HU1.out.next hc4 ((hbB.mono HU1.out.sz).trans hb4) hk4, HK1.out.trans hk4⟩)
          clear hHeld hn4 hc4 hb4 hk4 hk4' hbB HSM HSA HS2
          go_wp2
          go_roundw
          case rel => exact ⟨k + 1, by omega, by go_num, HR4⟩
          case measure => simp [intOf]; omega
    · obtain rfl : k = C.i.ns.length := by omega
      have HE := hide (show MkOut w0 w M v (vars + 0) rs Z C last (.returned (.tuple #[])) wr from ⟨rfl, v1, rs1, by rw [hn1, hZ.out], by simpa using hU1, hk1⟩)
      clear hn1 hU1 hk1
      go_wp2
      go_end0
      exact HE.out
end Go.Proofs.YtjhkecnnhddhbaaGreatDoor
