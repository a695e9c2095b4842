/- Steps, unrolled: the bonds of a step, its holds; what states begin as. -/
import Derived.Test.YtjhkecnnhddhbaaGreatDoorKd
namespace Go.Proofs.YtjhkecnnhddhbaaGreatDoor
open Go.RowKit Go.Maps Go.WideMaps
set_option maxRecDepth 100000
set_option autoImplicit false

/-- The clauses that a bit is, a step later, what it is next. -/
def bondC (C : Ci) (t i : Nat) : List (List Int) := sameC (stL C.f C.a (t + 1) i) (atL C.f t (C.n.ns.getD i 0))
def bondsT (C : Ci) (t : Nat) : List (List Int) := stepsL (bondC C t) C.n.ns.length
/-- The clause of a hold. -/
def holdC (C : Ci) (t i : Nat) : List (List Int) := rootC (atL C.f t (C.h.ns.getD i 0))
def holdsT (C : Ci) (t : Nat) : List (List Int) := stepsL (holdC C t) C.h.ns.length
/-- The clause of what a bit begins as. -/
def beginC (C : Ci) (i : Nat) : List (List Int) := if C.i.ns.getD i 0 = -1 then [] else sameC (stL C.f C.a 0 i) (C.i.ns.getD i 0)
def beginsT (C : Ci) : List (List Int) := stepsL (beginC C) C.i.ns.length
theorem stL_bd {f a : Int} {t i : Nat} (h0 : 0 ≤ (t : Int) * f) (h1 : (t : Int) * f + f ≤ 200000) (ha : 0 ≤ a) (hi : a + i < f) : 2 ≤ stL f a t i ∧ stL f a t i ≤ 400001 := by
  unfold stL atL
  rw [if_neg (by omega)]
  omega
theorem getD_mem' {l : List Int} {k : Nat} (h : k < l.length) : l.getD k 0 ∈ l := by
  rw [List.getD_eq_getElem?_getD, List.getElem?_eq_getElem h]
  exact List.getElem_mem h

set_option maxHeartbeats 8000000 in
theorem bondsStep_any (w0 : World) (M : Nat) (C : Ci) (last : Nat) (hC : COk w0 C last) (U G : Nat) (t : Nat) (ht : t < last) (w : World) (v : Value) (vars : Int) (rs : List Row)
    (hU : Un w0 w M v vars rs C last) (hB : Bxs w v M [(⟨U, 0, none⟩, .pointer (some ⟨M, 0, none⟩)), (⟨G, 0, none⟩, C.n.v)]) (hl : rs.length + (bondsT C t).length ≤ 800000) :
    Calls Tryz.prog 40 #[.int .i64 t, .pointer (some ⟨G, 0, none⟩), .pointer (some ⟨U, 0, none⟩)] w (MkOut w0 w M v (vars + 0) rs (bondsT C t) C last) := by
  have ht1 := hC.tf (show t ≤ last by omega)
  have ht2 := hC.tf (show t + 1 ≤ last by omega)
  have hf := hC.f0
  have hpl := hC.pl
  have hla := hC.la
  have hnl := hC.nl
  have hsm := hC.sm
  have hi1 := hC.i1
  have ha0 := hC.a0
  have hfe : C.f = C.ins + C.ps.length := rfl
  have HB := hide hB
  have HU := hide hU
  have HC := hide hC
  have HL : Hid (∀ k, k ≤ C.n.ns.length → (stepsL (bondC C t) k).length ≤ (bondsT C t).length) := fun k hk => stepsL_mono _ hk
  have HSU : Hid (∀ k, stepsL (bondC C t) (k + 1) = stepsL (bondC C t) k ++ sameC (stL C.f C.a (t + 1) k) (atL C.f t (C.n.ns.getD k 0))) := fun k => stepsL_succ _ k
  have g0 := (hB _ _ (.tail _ (.head _))).1
  have hZ : Hid (bondsT C t = stepsL (bondC C t) C.n.ns.length) := rfl
  generalize bondsT C t = Z at *
  have wt := wrap_id (x := (t : Int) + 1) (by omega) (by omega)
  clear hB hU hC
  simp only [Sl.v] at g0
  obtain ⟨pp, HPP⟩ : ∃ pp, Hid (C.n.at' = pp) := ⟨_, rfl⟩
  rw [HPP.out] at g0
  go_enter Tryz.func40, Tryz.ntmps40
  go_wp2
  go_loopw [8] (fun i wr => ∃ k : Nat, k ≤ C.n.ns.length ∧ i = .int .i64 k ∧ Hid (∃ v' rs', numsOf rs' = numsOf rs ++ stepsL (bondC C t) k ∧ Un w0 wr M v' vars rs' C last ∧ Kp M w v wr v')) (fun i _ => C.n.ns.length - (intOf i).toNat)
  case atStart => exact ⟨0, Nat.zero_le _, rfl, v, rs, by simp [stepsL], HU.out, Kp.refl _ _ _⟩
  case round =>
    obtain ⟨k, hk, rfl, HR⟩ := hrel
    obtain ⟨v1, rs1, hn1, hU1, hk1⟩ := HR.out
    by_cases hlt : k < C.n.ns.length
    · have hki : (k : Int) < (C.n.ns.length : Int) := by omega
      have b1 := ((HB.out.kp hk1) _ _ (.head _)).1
      have hle := HL.out (k + 1) (by omega)
      have hbn := HC.out.nn _ (getD_mem' hlt)
      obtain ⟨gb, goff, hge, hgc⟩ := (HC.out.at'.n.later hU1.bl) (by omega)
      have gk := hgc k hlt
      obtain rfl : pp = some ⟨gb, goff, none⟩ := HPP.out.symm.trans hge
      clear hge
      rw [show C.n.ns[k] = C.n.ns.getD k 0 by simp [List.getD, List.getElem?_eq_getElem hlt]] at gk
      have HSK := hide (HSU.out k)
      have hln := numsOf_lenE hn1
      rw [List.length_append, numsOf_len] at hln
      rw [HSK.out, List.length_append] at hle
      have hst := stL_bd (f := C.f) (a := C.a) (t := t + 1) (i := k) ht2.1 ht2.2 ha0 (by omega)
      have hat := atL_bd (x := C.n.ns.getD k 0) ht1.1 ht1.2 hbn.1 hbn.2
      have HAT := hide (fun w' (hb : Below wr.heap.size wr w') => at_any M C last t (C.n.ns.getD k 0) (by omega) hi1 (by omega) hbn.1 (by omega) ht1.1 (by omega) w' (hU1.un.later hb))
      have HSA := hide (fun w' (hb : Below wr.heap.size wr w') => state_any M C last (t + 1) k (by omega) hi1 (by omega) ha0 (by omega) (by omega) ht2.1 (by omega) w' (hU1.un.later hb))
      have HSM := hide (fun w' (hb : Below wr.heap.size wr w') => sameM_any w0.heap.size M v1 vars rs1 (by omega) (stL C.f C.a (t + 1) k) (atL C.f t (C.n.ns.getD k 0)) (by omega) (by omega) (by omega) (by omega) w' (by have := hU1.sz; have := hb.size; omega) (hU1.cm.below hb))
      have HN1 := hide hn1
      have HU1 := hide hU1
      have HK1 := hide hk1
      have hbd : Below wr.heap.size wr wr.drew := (Below.refl _ wr).drew
      have hxU : ∀ w' v', Kp M wr v1 w' v' → w'.cell? ⟨U, 0, none⟩ = some (.pointer (some ⟨M, 0, none⟩)) := fun w' v' hk => (((HB.out.kp hk1).kp hk) _ _ (.head _)).1
      have HXU := hide hxU
      rw [show ((t + 1 : Nat) : Int) = (t : Int) + 1 by omega] at HSA
      generalize stL C.f C.a (t + 1) k = x at *
      generalize atL C.f t (C.n.ns.getD k 0) = y at *
      generalize C.n.ns.getD k 0 = z at *
      clear hgc hxU hn1 hU1 hk1 HR hst hat hbn hle hln
      go_wp2
      go_region_held3 (fun w' => w'.cell? ⟨U, 0, none⟩ = some (.pointer (some ⟨M, 0, none⟩)))
        (first | exact HXU.out _ _ hk4 | exact cell_later hbB b1 | exact cell_later hbA b1 | exact cell_later hbd b1 | go_keep)
        (first
          | (go_at_call 41; have hq := hbB; refine (HSM.out _ hbB).mono ?_; rintro e w4 ⟨rfl, v4, rs4, hn4, hc4, hb4, hk4'⟩; have hk4 := (Kp.later (M := M) (v := v1) hbB).trans hk4')
          | (go_at_call 42; have hq := hbA; refine (HSA.out _ hbA).mono ?_; rintro e wB ⟨rfl, hb⟩; have hbB := bthen hbA hb)
          | (go_at_call 38; have hq := hbA; refine (HAT.out _ hbA).mono ?_; rintro e wB ⟨rfl, hb⟩; have hbB := bthen hbA hb)
          | (go_at_call 42; refine (HSA.out _ hbd).mono ?_; rintro e wA ⟨rfl, hb⟩; have hbA := bthen hbd hb)
          | (go_at_call 38; refine (HAT.out _ hbd).mono ?_; rintro e wA ⟨rfl, hb⟩; have hbA := bthen hbd hb))
      all_goals
        rename_i hHeld
        have HR4 := hide (show ∃ v' rs', numsOf rs' = numsOf rs ++ stepsL (bondC C t) (k + 1) ∧ Un w0 w4 M v' vars rs' C last ∧ Kp M w v w4 v' from ⟨v4, rs4, by rw [hn4, HN1.out, HSK.out, List.append_assoc], HU1.out.next hc4 ((hbB.mono HU1.out.sz).trans hb4) hk4, HK1.out.trans hk4⟩)
        clear hHeld hn4 hc4 hb4 hk4 hk4' hbA hbB HSM HSA HAT HSK
        go_wp2
        go_roundw
        case rel => exact ⟨k + 1, by omega, by go_num, HR4⟩
        case measure => simp [intOf]; omega
    · obtain rfl : k = C.n.ns.length := by omega
      have HE := hide (show MkOut w0 w M v (vars + 0) rs Z C last (.returned (.tuple #[])) wr from ⟨rfl, v1, rs1, by rw [hn1, hZ.out], by simpa using hU1, hk1⟩)
      clear hn1 hU1 hk1
      go_wp2
      go_end0
      exact HE.out
end Go.Proofs.YtjhkecnnhddhbaaGreatDoor
