/- Words: calculate. -/
import Derived.Test.YtagaemlgompggaaGreatDoorVa
import Derived.Deep.RegionWith
namespace Go.Proofs.YtagaemlgompggaaGreatDoor.Ev
open Go.RowKit
set_option maxRecDepth 100000

theorem toNat64 (a : Nat) (ha : a < 256) : (BitVec.ofInt 64 (a : Int)).toNat = a := by
  rw [BitVec.ofInt_natCast, BitVec.toNat_ofNat]; exact Nat.mod_eq_of_lt (by omega)

theorem i64_and (a b : Int) (h1 : 0 ≤ a) (h2 : a < 256) (h3 : 0 ≤ b) (h4 : b < 256) : bits .and .i64 a b = ((a.toNat &&& b.toNat : Nat) : Int) := by
  obtain ⟨A, rfl⟩ := Int.eq_ofNat_of_zero_le h1
  obtain ⟨B, rfl⟩ := Int.eq_ofNat_of_zero_le h3
  have hx : A &&& B < 2 ^ 8 := Nat.and_lt_two_pow _ (by omega)
  show IntKind.i64.wrap ((BitVec.ofInt 64 (A : Int) &&& BitVec.ofInt 64 (B : Int)).toNat : Int) = _
  rw [BitVec.toNat_and, toNat64 A (by omega), toNat64 B (by omega), wrap_small _ (by omega)]
  simp

theorem i64_or (a b : Int) (h1 : 0 ≤ a) (h2 : a < 256) (h3 : 0 ≤ b) (h4 : b < 256) : bits .or .i64 a b = ((a.toNat ||| b.toNat : Nat) : Int) := by
  obtain ⟨A, rfl⟩ := Int.eq_ofNat_of_zero_le h1
  obtain ⟨B, rfl⟩ := Int.eq_ofNat_of_zero_le h3
  have hx : A ||| B < 2 ^ 8 := Nat.or_lt_two_pow (by omega) (by omega)
  show IntKind.i64.wrap ((BitVec.ofInt 64 (A : Int) ||| BitVec.ofInt 64 (B : Int)).toNat : Int) = _
  rw [BitVec.toNat_or, toNat64 A (by omega), toNat64 B (by omega), wrap_small _ (by omega)]
  simp

theorem i64_xor (a b : Int) (h1 : 0 ≤ a) (h2 : a < 256) (h3 : 0 ≤ b) (h4 : b < 256) : bits .xor .i64 a b = ((a.toNat ^^^ b.toNat : Nat) : Int) := by
  obtain ⟨A, rfl⟩ := Int.eq_ofNat_of_zero_le h1
  obtain ⟨B, rfl⟩ := Int.eq_ofNat_of_zero_le h3
  have hx : A ^^^ B < 2 ^ 8 := Nat.xor_lt_two_pow (by omega) (by omega)
  show IntKind.i64.wrap ((BitVec.ofInt 64 (A : Int) ^^^ BitVec.ofInt 64 (B : Int)).toNat : Int) = _
  rw [BitVec.toNat_xor, toNat64 A (by omega), toNat64 B (by omega), wrap_small _ (by omega)]
  simp

theorem i64_not (a : Int) (h1 : 0 ≤ a) (h2 : a < 256) : bits .xor .i64 (-1) a = - a - 1 := by
  obtain ⟨A, rfl⟩ := Int.eq_ofNat_of_zero_le h1
  show IntKind.i64.wrap ((BitVec.ofInt 64 (-1) ^^^ BitVec.ofInt 64 (A : Int)).toNat : Int) = _
  rw [show BitVec.ofInt 64 (-1) = BitVec.allOnes 64 from by decide, BitVec.allOnes_xor, BitVec.toNat_not, toNat64 A (by omega), IntKind.wrap_i64]
  omega

theorem calc_4 (v a b : Int) (ha : 0 ≤ a) (ha2 : a < 256) (w : World) :
    Calls Tryz.prog 118 #[.int .i64 4, .int .i64 v, .int .i64 a, .int .i64 b] w fun e w' => e = .returned (.int .i64 (- a - 1)) ∧ w' = w := by
  have hn := i64_not a ha ha2
  go_enter Tryz.func118, Tryz.ntmps118
  go_wp2
  go_ret
  exact ⟨ret_int (by simp [*]), rfl⟩

theorem calc_5 (v a b : Int) (ha : 0 ≤ a) (ha2 : a < 256) (w : World) :
    Calls Tryz.prog 118 #[.int .i64 5, .int .i64 v, .int .i64 a, .int .i64 b] w fun e w' => e = .returned (.int .i64 (- a)) ∧ w' = w := by
  go_enter Tryz.func118, Tryz.ntmps118
  go_wp2
  go_ret
  exact ⟨ret_int (by first | rfl | exact rfl | omega), rfl⟩

theorem calc_6 (v a b : Int) (ha : 0 ≤ a) (ha2 : a < 256) (hb : 0 ≤ b) (hb2 : b < 256) (w : World) :
    Calls Tryz.prog 118 #[.int .i64 6, .int .i64 v, .int .i64 a, .int .i64 b] w fun e w' => e = .returned (.int .i64 ((a.toNat &&& b.toNat : Nat))) ∧ w' = w := by
  go_enter Tryz.func118, Tryz.ntmps118
  go_wp2
  go_ret
  exact ⟨ret_int (by first | rfl | exact i64_and a b ha ha2 hb hb2 | omega), rfl⟩

theorem calc_7 (v a b : Int) (ha : 0 ≤ a) (ha2 : a < 256) (hb : 0 ≤ b) (hb2 : b < 256) (w : World) :
    Calls Tryz.prog 118 #[.int .i64 7, .int .i64 v, .int .i64 a, .int .i64 b] w fun e w' => e = .returned (.int .i64 ((a.toNat ||| b.toNat : Nat))) ∧ w' = w := by
  go_enter Tryz.func118, Tryz.ntmps118
  go_wp2
  go_ret
  exact ⟨ret_int (by first | rfl | exact i64_or a b ha ha2 hb hb2 | omega), rfl⟩

theorem calc_8 (v a b : Int) (ha : 0 ≤ a) (ha2 : a < 256) (hb : 0 ≤ b) (hb2 : b < 256) (w : World) :
    Calls Tryz.prog 118 #[.int .i64 8, .int .i64 v, .int .i64 a, .int .i64 b] w fun e w' => e = .returned (.int .i64 ((a.toNat ^^^ b.toNat : Nat))) ∧ w' = w := by
  go_enter Tryz.func118, Tryz.ntmps118
  go_wp2
  go_ret
  exact ⟨ret_int (by first | rfl | exact i64_xor a b ha ha2 hb hb2 | omega), rfl⟩

theorem calc_9 (v a b : Int) (ha : 0 ≤ a) (ha2 : a < 256) (hb : 0 ≤ b) (hb2 : b < 256) (w : World) :
    Calls Tryz.prog 118 #[.int .i64 9, .int .i64 v, .int .i64 a, .int .i64 b] w fun e w' => e = .returned (.int .i64 (a + b)) ∧ w' = w := by
  go_enter Tryz.func118, Tryz.ntmps118
  go_wp2
  go_ret
  exact ⟨ret_int (by first | rfl | exact rfl | omega), rfl⟩

theorem calc_10 (v a b : Int) (ha : 0 ≤ a) (ha2 : a < 256) (hb : 0 ≤ b) (hb2 : b < 256) (w : World) :
    Calls Tryz.prog 118 #[.int .i64 10, .int .i64 v, .int .i64 a, .int .i64 b] w fun e w' => e = .returned (.int .i64 (a - b)) ∧ w' = w := by
  go_enter Tryz.func118, Tryz.ntmps118
  go_wp2
  go_ret
  exact ⟨ret_int (by first | rfl | exact rfl | omega), rfl⟩

theorem calc_11 (v a b : Int) (ha : 0 ≤ a) (ha2 : a < 256) (hb : 0 ≤ b) (hb2 : b < 256) (w : World) :
    Calls Tryz.prog 118 #[.int .i64 11, .int .i64 v, .int .i64 a, .int .i64 b] w fun e w' => e = .returned (.int .i64 (a * b)) ∧ w' = w := by
  have h1 : 0 ≤ a * b := Int.mul_nonneg ha hb
  have h2 : a * b ≤ 256 * 256 := Int.mul_le_mul (by omega) (by omega) hb (by omega)
  go_enter Tryz.func118, Tryz.ntmps118
  go_wp2
  go_ret
  exact ⟨rfl, rfl⟩

/-- How often; what is left; up; down. -/
def divE (a b : Int) : Int := if b = 0 then -1 else a / b
def remE (a b : Int) : Int := if b = 0 then a else a % b
def shlE (v a b : Int) : Int := if v ≤ b then 0 else a * two b
def shrE (v a b : Int) : Int := if v ≤ b then 0 else a / two b

theorem calc_12 (v a b : Int) (ha : 0 ≤ a) (ha2 : a < 256) (hb : 0 ≤ b) (hb2 : b < 256) (w : World) :
    Calls Tryz.prog 118 #[.int .i64 12, .int .i64 v, .int .i64 a, .int .i64 b] w fun e w' => e = .returned (.int .i64 (divE a b)) ∧ w' = w := by
  unfold divE
  by_cases h : b = 0
  · rw [if_pos h]
    subst h
    go_enter Tryz.func118, Tryz.ntmps118
    go_wp2
    go_ret
    exact ⟨rfl, rfl⟩
  · rw [if_neg h]
    go_enter Tryz.func118, Tryz.ntmps118
    go_wp2
    all_goals go_ret
    exact ⟨rfl, rfl⟩

theorem calc_13 (v a b : Int) (ha : 0 ≤ a) (ha2 : a < 256) (hb : 0 ≤ b) (hb2 : b < 256) (w : World) :
    Calls Tryz.prog 118 #[.int .i64 13, .int .i64 v, .int .i64 a, .int .i64 b] w fun e w' => e = .returned (.int .i64 (remE a b)) ∧ w' = w := by
  unfold remE
  by_cases h : b = 0
  · rw [if_pos h]
    subst h
    go_enter Tryz.func118, Tryz.ntmps118
    go_wp2
    go_ret
    exact ⟨rfl, rfl⟩
  · rw [if_neg h]
    go_enter Tryz.func118, Tryz.ntmps118
    go_wp2
    all_goals go_ret
    exact ⟨rfl, rfl⟩


theorem calc_14 (v a b : Int) (hv : v ≤ 8) (ha : 0 ≤ a) (ha2 : a < 256) (hb : 0 ≤ b) (w : World) :
    Calls Tryz.prog 118 #[.int .i64 14, .int .i64 v, .int .i64 a, .int .i64 b] w fun e w' => e = .returned (.int .i64 (shlE v a b)) ∧ w' = w := by
  unfold shlE
  by_cases h : v ≤ b
  · rw [if_pos h]
    go_enter Tryz.func118, Tryz.ntmps118
    go_wp2_with (go_at_call 123; refine (shift_far _ _ _ _ h _).mono ?_; rintro e w' ⟨rfl, rfl⟩)
    go_ret
    exact ⟨rfl, rfl⟩
  · rw [if_neg h]
    go_enter Tryz.func118, Tryz.ntmps118
    go_wp2_with (go_at_call 123; refine (shift_up _ _ _ (by omega) hv hb ha ha2 _).mono ?_; rintro e w' ⟨rfl, rfl⟩)
    go_ret
    exact ⟨rfl, rfl⟩

theorem calc_15 (v a b : Int) (hv : v ≤ 8) (hb : 0 ≤ b) (w : World) :
    Calls Tryz.prog 118 #[.int .i64 15, .int .i64 v, .int .i64 a, .int .i64 b] w fun e w' => e = .returned (.int .i64 (shrE v a b)) ∧ w' = w := by
  unfold shrE
  by_cases h : v ≤ b
  · rw [if_pos h]
    go_enter Tryz.func118, Tryz.ntmps118
    go_wp2_with (go_at_call 123; refine (shift_far _ _ _ _ h _).mono ?_; rintro e w' ⟨rfl, rfl⟩)
    go_ret
    exact ⟨rfl, rfl⟩
  · rw [if_neg h]
    go_enter Tryz.func118, Tryz.ntmps118
    go_wp2_with (go_at_call 123; refine (shift_down _ _ _ (by omega) hv hb _).mono ?_; rintro e w' ⟨rfl, rfl⟩)
    go_ret
    exact ⟨rfl, rfl⟩

/-- 1 or 0. -/
def yesOf (b : Bool) : Int := if b then 1 else 0

theorem cmp_16 (a b v : Int) (w : World) :
    Calls Tryz.prog 115 #[.int .i64 16, .int .i64 a, .int .i64 b, .int .i64 v] w fun e w' => e = .returned (.int .i64 (yesOf (a == b))) ∧ w' = w := by
  by_cases h : a = b
  · have hb : (a == b) = true := by simp [h]
    have hy : Hid (yesOf (a == b) = 1) := by rw [hb]; rfl
    clear h
    go_enter Tryz.func115, Tryz.ntmps115
    go_wp2
    go_ret
    exact ⟨ret_int hy.out.symm, rfl⟩
  · have hb : (a == b) = false := by simp [h]
    have hy : Hid (yesOf (a == b) = 0) := by rw [hb]; rfl
    clear h
    go_enter Tryz.func115, Tryz.ntmps115
    go_wp2
    go_ret
    exact ⟨ret_int hy.out.symm, rfl⟩

theorem cmp_17 (a b v : Int) (w : World) :
    Calls Tryz.prog 115 #[.int .i64 17, .int .i64 a, .int .i64 b, .int .i64 v] w fun e w' => e = .returned (.int .i64 (yesOf (decide (a < b)))) ∧ w' = w := by
  by_cases h : a < b
  · have hy : Hid (yesOf (decide (a < b)) = 1) := by simp [yesOf, h, Hid]
    go_enter Tryz.func115, Tryz.ntmps115
    go_wp2
    go_ret
    exact ⟨ret_int hy.out.symm, rfl⟩
  · have hy : Hid (yesOf (decide (a < b)) = 0) := by simp [yesOf, h, Hid]
    go_enter Tryz.func115, Tryz.ntmps115
    go_wp2
    go_ret
    exact ⟨ret_int hy.out.symm, rfl⟩

theorem cmp_18 (a b v : Int) (hv : 1 ≤ v ∧ v ≤ 8) (ha : 0 ≤ a) (ha2 : a < two v) (hb : 0 ≤ b) (hb2 : b < two v) (w : World) :
    Calls Tryz.prog 115 #[.int .i64 18, .int .i64 a, .int .i64 b, .int .i64 v] w fun e w' => e = .returned (.int .i64 (yesOf (decide (sgn a v < sgn b v)))) ∧ w' = w := by
  by_cases h : sgn a v < sgn b v
  · have hy : Hid (yesOf (decide (sgn a v < sgn b v)) = 1) := by simp [yesOf, h, Hid]
    go_enter Tryz.func115, Tryz.ntmps115
    go_wp2_with fail
    refine (signed_any a v hv ha ha2 _).mono ?_
    rintro e w' ⟨rfl, rfl⟩
    go_wp2_with fail
    refine (signed_any b v hv hb hb2 _).mono ?_
    rintro e w' ⟨rfl, rfl⟩
    go_wp2
    go_ret
    exact ⟨ret_int hy.out.symm, rfl⟩
  · have hy : Hid (yesOf (decide (sgn a v < sgn b v)) = 0) := by simp [yesOf, h, Hid]
    go_enter Tryz.func115, Tryz.ntmps115
    go_wp2_with fail
    refine (signed_any a v hv ha ha2 _).mono ?_
    rintro e w' ⟨rfl, rfl⟩
    go_wp2_with fail
    refine (signed_any b v hv hb hb2 _).mono ?_
    rintro e w' ⟨rfl, rfl⟩
    go_wp2
    go_ret
    exact ⟨ret_int hy.out.symm, rfl⟩

theorem wide_22 (v a f : Int) (w : World) :
    Calls Tryz.prog 117 #[.int .i64 22, .int .i64 v, .int .i64 a, .int .i64 f] w fun e w' => e = .returned (.int .i64 a) ∧ w' = w := by
  go_enter Tryz.func117, Tryz.ntmps117
  go_wp2
  go_ret
  exact ⟨rfl, rfl⟩

theorem wide_23 (v a f : Int) (hv : 0 ≤ v ∧ v ≤ 8) (hf : 1 ≤ f ∧ f ≤ 8) (ha : 0 ≤ a) (ha2 : a < two f) (w : World) :
    Calls Tryz.prog 117 #[.int .i64 23, .int .i64 v, .int .i64 a, .int .i64 f] w fun e w' => e = .returned (.int .i64 (sgn a f % two v)) ∧ w' = w := by
  go_enter Tryz.func117, Tryz.ntmps117
  go_wp2_with (first | (go_at_call 122; refine (signed_any a f hf ha ha2 _).mono ?_; rintro e w' ⟨rfl, rfl⟩) | (go_at_call 116; refine (within_any _ v hv _).mono ?_; rintro e w' ⟨rfl, rfl⟩))
  go_ret
  exact ⟨rfl, rfl⟩

end Go.Proofs.YtagaemlgompggaaGreatDoor.Ev
