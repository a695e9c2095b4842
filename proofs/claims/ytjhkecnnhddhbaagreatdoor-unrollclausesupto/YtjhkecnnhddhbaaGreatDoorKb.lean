/- Steps, unrolled: a state's literal; the clauses that two literals are the same. -/
import Derived.Test.YtjhkecnnhddhbaaGreatDoorKa
namespace Go.Proofs.YtjhkecnnhddhbaaGreatDoor
open Go.RowKit Go.Maps Go.WideMaps
set_option maxRecDepth 100000
set_option autoImplicit false

set_option maxHeartbeats 2000000 in
theorem state_any (M : Nat) (C : Ci) (last t i : Nat) (h0 : 0 ≤ C.ins) (h1 : C.ins ≤ 1000) (h2 : C.ps.length ≤ 1000001) (ha : 0 ≤ C.a) (ha2 : C.a ≤ 1000) (hi : i ≤ 1000) (ht0 : 0 ≤ (t : Int) * C.f) (ht : (t : Int) * C.f ≤ 200000) (w : World) (hU : UnC w M C last) :
    Calls Tryz.prog 42 #[.pointer (some ⟨M, 0, none⟩), .int .i64 t, .int .i64 i] w fun e w' => e = .returned (.int .i64 (stL C.f C.a t i)) ∧ Below w.heap.size w w' := by
  have HA := hide (at_any M C last t (2 * (1 + C.a + i)) h0 h1 h2 (by omega) (by omega) ht0 ht w hU)
  have HE : Hid (stL C.f C.a t i = atL C.f t (2 * (1 + C.a + i))) := rfl
  have u4 := hU.u4
  have HL := hide (literal_any (1 + C.a + i) (by omega) (by omega) w)
  generalize atL C.f t (2 * (1 + C.a + i)) = R at *
  generalize stL C.f C.a t i = Z at *
  generalize C.a = a at *
  clear hU
  have w1 := wrap_id (x := 1 + a) (by omega) (by omega)
  have w2 := wrap_id (x := 1 + a + (i : Int)) (by omega) (by omega)
  go_enter Tryz.func42, Tryz.ntmps42
  go_wp2_with fail
  refine HL.out.mono ?_
  rintro e w1 ⟨rfl, hw1⟩
  obtain rfl : w = w1 := hw1.symm
  clear hw1
  go_wp2_with fail
  refine HA.out.mono ?_
  rintro e w2 ⟨rfl, hb2⟩
  have HB := hide hb2
  clear hb2 HA HL
  go_wp2
  go_ret
  exact ⟨ret_int HE.out.symm, HB.out⟩

theorem turn_bd {x : Int} (h : 0 ≤ x) : 0 ≤ turn x ∧ turn x ≤ x + 1 := by
  unfold turn
  split
  · rename_i h1
    have : x % 2 = 1 := by simpa [odd] using h1
    omega
  · omega
theorem turn_two {x : Int} (h : 2 ≤ x) : 2 ≤ turn x := by
  unfold turn
  split
  · rename_i h1
    have : x % 2 = 1 := by simpa [odd] using h1
    omega
  · omega
theorem sameC_len {x y : Int} (hx : 2 ≤ x) : (sameC x y).length = (if y = 0 then 0 else 1) + (if y = 1 then 0 else 1) := by
  have hr : ∀ z : Int, 2 ≤ z → (rootC z).length = 1 := fun z hz => by rw [rootC_len, if_neg (by omega)]
  unfold sameC
  by_cases h1 : y = 1
  · subst h1; rw [if_pos rfl, hr x hx]; rfl
  · rw [if_neg h1]
    by_cases h0 : y = 0
    · subst h0; rw [if_pos rfl, hr _ (turn_two hx)]; rfl
    · rw [if_neg h0, if_neg h0, if_neg h1]; rfl

set_option maxHeartbeats 4000000 in
theorem sameM_any (base M : Nat) (v : Value) (vars : Int) (rs : List Row) (hrs : rs.length ≤ 3800000) (x y : Int) (hx : 0 ≤ x) (hx2 : x ≤ 9000000) (hy : 0 ≤ y) (hy2 : y ≤ 9000000) (w : World) (hbs : base ≤ w.heap.size) (hmk : Cm w base M v vars rs) :
    Calls Tryz.prog 41 #[.pointer (some ⟨M, 0, none⟩), .int .i64 x, .int .i64 y] w fun e w' => e = .returned (.tuple #[]) ∧ ∃ v' rs', numsOf rs' = numsOf rs ++ sameC x y ∧ Cm w' base M v' vars rs' ∧ Below base w w' ∧ Kp M w v w' v' := by
  have HMK := hide hmk
  clear hmk
  by_cases h1 : y = 1
  · subst h1
    have HC : Hid (sameC x 1 = rootC x) := rfl
    generalize sameC x 1 = Z at *
    go_enter Tryz.func41, Tryz.ntmps41
    go_wp2_with fail
    refine (rootM_any base M v vars rs (by omega) x hx (by omega) _ hbs HMK.out).mono ?_
    rintro e w2 ⟨rfl, v2, r2, hr2, hmk2, hb2, hk2⟩
    have HR := hide (show ∃ v' rs', numsOf rs' = numsOf rs ++ Z ∧ Cm w2 base M v' vars rs' ∧ Below base w w2 ∧ Kp M w v w2 v' from ⟨v2, r2, by rw [HC.out]; exact hr2, hmk2, hb2, hk2⟩)
    clear hr2 hmk2 hb2 hk2
    go_wp2
    go_end0
    exact ⟨rfl, HR.out⟩
  · by_cases h0 : y = 0
    · subst h0
      have HC : Hid (sameC x 0 = rootC (turn x)) := rfl
      generalize sameC x 0 = Z at *
      have ht := turn_bd hx
      have HT := hide (turn_any x hx (by omega) w)
      generalize turn x = u at *
      go_enter Tryz.func41, Tryz.ntmps41
      go_wp2_with fail
      refine HT.out.mono ?_
      rintro e w1 ⟨rfl, hw1⟩
      obtain rfl : w = w1 := hw1.symm
      clear hw1 HT
      go_wp2_with fail
      refine (rootM_any base M v vars rs (by omega) u ht.1 (by omega) _ hbs HMK.out).mono ?_
      rintro e w2 ⟨rfl, v2, r2, hr2, hmk2, hb2, hk2⟩
      have HR := hide (show ∃ v' rs', numsOf rs' = numsOf rs ++ Z ∧ Cm w2 base M v' vars rs' ∧ Below base w w2 ∧ Kp M w v w2 v' from ⟨v2, r2, by rw [HC.out]; exact hr2, hmk2, hb2, hk2⟩)
      clear hr2 hmk2 hb2 hk2
      go_wp2
      go_end0
      exact ⟨rfl, HR.out⟩
    · have HC : Hid (sameC x y = [[-numL x, numL y], [numL x, -numL y]]) := by unfold sameC; rw [if_neg h1, if_neg h0]; rfl
      have hna := numL_bd hx (by omega)
      have hnb := numL_bd hy (by omega)
      have HN := hide (fun w => number_any x hx (by omega) w)
      have HN2 := hide (fun w => number_any y hy (by omega) w)
      have h1' : (y == 1) = false := by simpa using h1
      have h0' : (y == 0) = false := by simpa using h0
      generalize sameC x y = Z at *
      generalize numL x = a at *
      generalize numL y = b at *
      have wa := wrap_id (x := -a) (by omega) (by omega)
      have wb := wrap_id (x := -b) (by omega) (by omega)
      go_enter Tryz.func41, Tryz.ntmps41
      go_wp2_with fail
      refine (HN.out _).mono ?_
      rintro e w1 ⟨rfl, hw1⟩
      obtain rfl : w = w1 := hw1.symm
      clear hw1
      go_wp2_with fail
      refine (HN2.out _).mono ?_
      rintro e w1 ⟨rfl, hw1⟩
      obtain rfl : w = w1 := hw1.symm
      clear hw1
      go_wp2_with fail
      refine (addC_any base M v vars rs (by omega) [-a, b] (by simp) (some ⟨w.heap.size, 0, none⟩) 2 _ (by simp; omega) (HMK.out.below (bal (Below.refl _ _) _)) (ints_two (-a) b)).mono ?_
      rintro e w2 ⟨rfl, v2, r2, hr2, hmk2, hb2, hk2⟩
      have HMK2 := hide hmk2
      have hs2 : base ≤ w2.heap.size := by have := hb2.size; simp at this; omega
      have HB2 := hide (((Below.refl _ w).alloc hbs _).trans hb2)
      have HK2 := hide ((Kp.later (M := M) (v := v) (bal (Below.refl _ w) _)).trans hk2)
      have HR2 := hide hr2
      clear hmk2 hb2 hk2 hr2 HMK
      go_wp2_with fail
      refine (HN.out _).mono ?_
      rintro e w1 ⟨rfl, hw1⟩
      obtain rfl : w2 = w1 := hw1.symm
      clear hw1
      go_wp2_with fail
      refine (HN2.out _).mono ?_
      rintro e w1 ⟨rfl, hw1⟩
      obtain rfl : w2 = w1 := hw1.symm
      clear hw1
      go_wp2_with fail
      refine (addC_any base M v2 vars (rs ++ [r2]) (by simp; omega) [a, -b] (by simp) (some ⟨w2.heap.size, 0, none⟩) 2 _ (by simp; omega) (HMK2.out.below (bal (Below.refl _ _) _)) (ints_two a (-b))).mono ?_
      rintro e w3 ⟨rfl, v3, r3, hr3, hmk3, hb3, hk3⟩
      have HR := hide (show ∃ v' rs', numsOf rs' = numsOf rs ++ Z ∧ Cm w3 base M v' vars rs' ∧ Below base w w3 ∧ Kp M w v w3 v' from ⟨v3, _, by rw [numsOf_app, numsOf_app, HR2.out, hr3, HC.out]; simp, hmk3, (HB2.out.alloc hs2 _).trans hb3, (HK2.out.trans (Kp.later (bal (Below.refl _ _) _))).trans hk3⟩)
      clear hr3 hmk3 hb3 hk3
      go_wp2
      go_end0
      exact ⟨rfl, HR.out⟩
end Go.Proofs.YtjhkecnnhddhbaaGreatDoor
