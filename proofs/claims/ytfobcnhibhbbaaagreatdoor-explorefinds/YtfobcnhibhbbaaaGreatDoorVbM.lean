/- Words: what the small calls of Apply return. -/
import Derived.Test.YtfobcnhibhbbaaaGreatDoorYaM
import Derived.Deep.Light
import Derived.Deep.RegionWith
namespace Go.Proofs.YtfobcnhibhbbaaaGreatDoor.Ev
open Go.RowKit
set_option maxRecDepth 100000

/-- Two to the power of w. -/
def two (w : Int) : Int := 2 ^ w.toNat
theorem two0 : two 0 = 1 := rfl
theorem two1 : two 1 = 2 := rfl
theorem two2 : two 2 = 4 := rfl
theorem two3 : two 3 = 8 := rfl
theorem two4 : two 4 = 16 := rfl
theorem two5 : two 5 = 32 := rfl
theorem two6 : two 6 = 64 := rfl
theorem two7 : two 7 = 128 := rfl
theorem two8 : two 8 = 256 := rfl

theorem nine {w : Int} (h : 0 ≤ w ∧ w ≤ 8) : w = 0 ∨ w = 1 ∨ w = 2 ∨ w = 3 ∨ w = 4 ∨ w = 5 ∨ w = 6 ∨ w = 7 ∨ w = 8 := by omega

theorem eight_lo {w : Int} (h : 0 ≤ w ∧ w ≤ 7) : w = 0 ∨ w = 1 ∨ w = 2 ∨ w = 3 ∨ w = 4 ∨ w = 5 ∨ w = 6 ∨ w = 7 := by omega

theorem ofInt64_toNat (x : Int) : ((BitVec.ofInt 64 x).toNat : Int) = x % 18446744073709551616 := by
  rw [BitVec.toNat_ofInt]
  have : (0 : Int) ≤ x % 18446744073709551616 := Int.emod_nonneg _ (by decide)
  show ((x % (2 ^ 64 : Nat)).toNat : Int) = _
  rw [show ((2 ^ 64 : Nat) : Int) = 18446744073709551616 from rfl]
  omega

theorem wrap_small (n : Nat) (h : n < 256) : IntKind.i64.wrap (n : Int) = n := by
  rw [IntKind.wrap_i64]
  omega

theorem mask_nat (x : Int) (i : Nat) (hi : i ≤ 8) : (((BitVec.ofInt 64 x).toNat % 2 ^ i : Nat) : Int) = x % 2 ^ i := by
  rw [Int.natCast_emod, ofInt64_toNat]
  have h : ((2 ^ i : Nat) : Int) = 2 ^ i := by simp
  rw [h]
  apply Int.emod_emod_of_dvd
  exact ⟨2 ^ (64 - i), by rw [← Int.pow_add]; rw [show i + (64 - i) = 64 from by omega]; rfl⟩

theorem bits_mask (x : Int) (i : Nat) (hi : i ≤ 8) (m : Int) (hm : m = (2 ^ i - 1 : Nat)) : bits .and .i64 x m = x % 2 ^ i := by
  subst hm
  show IntKind.i64.wrap ((BitVec.ofInt 64 x &&& BitVec.ofInt 64 ((2 ^ i - 1 : Nat) : Int)).toNat : Int) = _
  have h2 : 2 ^ i ≤ 2 ^ 8 := Nat.pow_le_pow_right (by omega) hi
  have h0 : 0 < 2 ^ i := Nat.two_pow_pos i
  rw [BitVec.toNat_and, BitVec.ofInt_natCast, BitVec.toNat_ofNat, Nat.mod_eq_of_lt (a := 2 ^ i - 1) (by omega), Nat.and_two_pow_sub_one_eq_mod]
  have hlt : (BitVec.ofInt 64 x).toNat % 2 ^ i < 2 ^ i := Nat.mod_lt _ h0
  rw [wrap_small _ (by omega), mask_nat x i hi]

/-- Is it a word of so many bits? -/
def isW (x v : Int) : Bool := decide (0 ≤ x ∧ x < two v)
theorem isW_iff {x v : Int} : isW x v = true ↔ 0 ≤ x ∧ x < two v := by simp [isW]

set_option maxHeartbeats 400000 in
theorem isWord_any (x v : Int) (hv : 0 ≤ v ∧ v ≤ 8) (w : World) :
    Calls Tryz.prog 75 #[.int .i64 x, .int .i64 v] w fun e w' => e = .returned (.bool (isW x v)) ∧ w' = w := by
  rcases nine hv with rfl | rfl | rfl | rfl | rfl | rfl | rfl | rfl | rfl
  all_goals
    go_enter Tryz.func75, Tryz.ntmps75
    go_wp2
    all_goals
      go_ret
      exact ⟨ret_bool (by rw [Bool.eq_iff_iff, isW_iff]; simp [two0, two1, two2, two3, two4, two5, two6, two7, two8]; try omega), rfl⟩

set_option maxHeartbeats 400000 in
theorem within_any (x v : Int) (hv : 0 ≤ v ∧ v ≤ 8) (w : World) :
    Calls Tryz.prog 103 #[.int .i64 x, .int .i64 v] w fun e w' => e = .returned (.int .i64 (x % two v)) ∧ w' = w := by
  have m0 := bits_mask x 0 (by omega) 0 rfl
  have m1 := bits_mask x 1 (by omega) 1 rfl
  have m2 := bits_mask x 2 (by omega) 3 rfl
  have m3 := bits_mask x 3 (by omega) 7 rfl
  have m4 := bits_mask x 4 (by omega) 15 rfl
  have m5 := bits_mask x 5 (by omega) 31 rfl
  have m6 := bits_mask x 6 (by omega) 63 rfl
  have m7 := bits_mask x 7 (by omega) 127 rfl
  have m8 := bits_mask x 8 (by omega) 255 rfl
  rcases nine hv with rfl | rfl | rfl | rfl | rfl | rfl | rfl | rfl | rfl
  all_goals
    go_enter Tryz.func103, Tryz.ntmps103
    go_wp2
    go_ret
    exact ⟨ret_int (by first | rfl | simp [two]), rfl⟩


/-- A word's number, where its upmost bit counts as its opposite. -/
def sgn (a v : Int) : Int := if a < two (v - 1) then a else a - two v

theorem two_bd {v : Int} (hv : 0 ≤ v ∧ v ≤ 8) : 1 ≤ two v ∧ two v ≤ 256 := by
  rcases nine hv with rfl | rfl | rfl | rfl | rfl | rfl | rfl | rfl | rfl <;> simp [two]

set_option maxHeartbeats 400000 in
theorem signed_any (a v : Int) (hv : 1 ≤ v ∧ v ≤ 8) (h0 : 0 ≤ a) (h1 : a < two v) (w : World) :
    Calls Tryz.prog 118 #[.int .i64 a, .int .i64 v] w fun e w' => e = .returned (.int .i64 (sgn a v)) ∧ w' = w := by
  have hb := (two_bd (v := v) (by omega)).2
  have h2 : a < 256 := by omega
  have H1 : Hid _ := h1
  clear h1 hb
  rcases nine (w := v) (by omega) with rfl | rfl | rfl | rfl | rfl | rfl | rfl | rfl | rfl
  · omega
  all_goals
    go_enter Tryz.func118, Tryz.ntmps118
    go_wp2
    go_ret
    refine ⟨ret_int ?_, rfl⟩
    have h1 := H1.out
    unfold sgn
    split <;> rename_i hc <;> simp [two] at hc h1 ⊢ <;> omega


set_option maxHeartbeats 400000 in
theorem shift_far (k v a b : Int) (h : v ≤ b) (w : World) :
    Calls Tryz.prog 119 #[.int .i64 k, .int .i64 v, .int .i64 a, .int .i64 b] w fun e w' => e = .returned (.int .i64 0) ∧ w' = w := by
  go_enter Tryz.func119, Tryz.ntmps119
  go_wp2
  go_ret
  exact ⟨rfl, rfl⟩

set_option maxHeartbeats 400000 in
theorem shift_up (v a b : Int) (h : b < v) (hv : v ≤ 8) (hb : 0 ≤ b) (ha : 0 ≤ a) (ha2 : a < 256) (w : World) :
    Calls Tryz.prog 119 #[.int .i64 14, .int .i64 v, .int .i64 a, .int .i64 b] w fun e w' => e = .returned (.int .i64 (a * two b)) ∧ w' = w := by
  rcases eight_lo (w := b) (by omega) with rfl | rfl | rfl | rfl | rfl | rfl | rfl | rfl
  all_goals
    go_enter Tryz.func119, Tryz.ntmps119
    go_wp2
    go_ret
    exact ⟨ret_int (by simp [two]), rfl⟩

set_option maxHeartbeats 400000 in
theorem shift_down (v a b : Int) (h : b < v) (hv : v ≤ 8) (hb : 0 ≤ b) (w : World) :
    Calls Tryz.prog 119 #[.int .i64 15, .int .i64 v, .int .i64 a, .int .i64 b] w fun e w' => e = .returned (.int .i64 (a / two b)) ∧ w' = w := by
  rcases eight_lo (w := b) (by omega) with rfl | rfl | rfl | rfl | rfl | rfl | rfl | rfl
  all_goals
    go_enter Tryz.func119, Tryz.ntmps119
    go_wp2
    go_ret
    exact ⟨ret_int (by simp [two]), rfl⟩

end Go.Proofs.YtfobcnhibhbbaaaGreatDoor.Ev

namespace Go.Proofs.YtfobcnhibhbbaaaGreatDoor.Ev
open Go.RowKit
set_option maxRecDepth 100000

theorem toNat64 (a : Nat) (ha : a < 256) : (BitVec.ofInt 64 (a : Int)).toNat = a := by
  rw [BitVec.ofInt_natCast, BitVec.toNat_ofNat]; exact Nat.mod_eq_of_lt (by omega)

theorem i64_and (a b : Int) (h1 : 0 ≤ a) (h2 : a < 256) (h3 : 0 ≤ b) (h4 : b < 256) : bits .and .i64 a b = ((a.toNat &&& b.toNat : Nat) : Int) := by
  obtain ⟨A, rfl⟩ := Int.eq_ofNat_of_zero_le h1
  obtain ⟨B, rfl⟩ := Int.eq_ofNat_of_zero_le h3
  have hx : A &&& B < 2 ^ 8 := Nat.and_lt_two_pow _ (by omega)
  show IntKind.i64.wrap ((BitVec.ofInt 64 (A : Int) &&& BitVec.ofInt 64 (B : Int)).toNat : Int) = _
  rw [BitVec.toNat_and, toNat64 A (by omega), toNat64 B (by omega), wrap_small _ (by omega)]
  simp

theorem i64_or (a b : Int) (h1 : 0 ≤ a) (h2 : a < 256) (h3 : 0 ≤ b) (h4 : b < 256) : bits .or .i64 a b = ((a.toNat ||| b.toNat : Nat) : Int) := by
  obtain ⟨A, rfl⟩ := Int.eq_ofNat_of_zero_le h1
  obtain ⟨B, rfl⟩ := Int.eq_ofNat_of_zero_le h3
  have hx : A ||| B < 2 ^ 8 := Nat.or_lt_two_pow (by omega) (by omega)
  show IntKind.i64.wrap ((BitVec.ofInt 64 (A : Int) ||| BitVec.ofInt 64 (B : Int)).toNat : Int) = _
  rw [BitVec.toNat_or, toNat64 A (by omega), toNat64 B (by omega), wrap_small _ (by omega)]
  simp

theorem i64_xor (a b : Int) (h1 : 0 ≤ a) (h2 : a < 256) (h3 : 0 ≤ b) (h4 : b < 256) : bits .xor .i64 a b = ((a.toNat ^^^ b.toNat : Nat) : Int) := by
  obtain ⟨A, rfl⟩ := Int.eq_ofNat_of_zero_le h1
  obtain ⟨B, rfl⟩ := Int.eq_ofNat_of_zero_le h3
  have hx : A ^^^ B < 2 ^ 8 := Nat.xor_lt_two_pow (by omega) (by omega)
  show IntKind.i64.wrap ((BitVec.ofInt 64 (A : Int) ^^^ BitVec.ofInt 64 (B : Int)).toNat : Int) = _
  rw [BitVec.toNat_xor, toNat64 A (by omega), toNat64 B (by omega), wrap_small _ (by omega)]
  simp

theorem i64_not (a : Int) (h1 : 0 ≤ a) (h2 : a < 256) : bits .xor .i64 (-1) a = - a - 1 := by
  obtain ⟨A, rfl⟩ := Int.eq_ofNat_of_zero_le h1
  show IntKind.i64.wrap ((BitVec.ofInt 64 (-1) ^^^ BitVec.ofInt 64 (A : Int)).toNat : Int) = _
  rw [show BitVec.ofInt 64 (-1) = BitVec.allOnes 64 from by decide, BitVec.allOnes_xor, BitVec.toNat_not, toNat64 A (by omega), IntKind.wrap_i64]
  omega

theorem calc_4 (v a b : Int) (ha : 0 ≤ a) (ha2 : a < 256) (w : World) :
    Calls Tryz.prog 105 #[.int .i64 4, .int .i64 v, .int .i64 a, .int .i64 b] w fun e w' => e = .returned (.int .i64 (- a - 1)) ∧ w' = w := by
  have hn := i64_not a ha ha2
  go_enter Tryz.func105, Tryz.ntmps105
  go_wp2
  go_ret
  exact ⟨ret_int (by simp [*]), rfl⟩

theorem calc_5 (v a b : Int) (ha : 0 ≤ a) (ha2 : a < 256) (w : World) :
    Calls Tryz.prog 105 #[.int .i64 5, .int .i64 v, .int .i64 a, .int .i64 b] w fun e w' => e = .returned (.int .i64 (- a)) ∧ w' = w := by
  go_enter Tryz.func105, Tryz.ntmps105
  go_wp2
  go_ret
  exact ⟨ret_int (by first | rfl | exact rfl | omega), rfl⟩

theorem calc_6 (v a b : Int) (ha : 0 ≤ a) (ha2 : a < 256) (hb : 0 ≤ b) (hb2 : b < 256) (w : World) :
    Calls Tryz.prog 105 #[.int .i64 6, .int .i64 v, .int .i64 a, .int .i64 b] w fun e w' => e = .returned (.int .i64 ((a.toNat &&& b.toNat : Nat))) ∧ w' = w := by
  go_enter Tryz.func105, Tryz.ntmps105
  go_wp2
  go_ret
  exact ⟨ret_int (by first | rfl | exact i64_and a b ha ha2 hb hb2 | omega), rfl⟩

theorem calc_7 (v a b : Int) (ha : 0 ≤ a) (ha2 : a < 256) (hb : 0 ≤ b) (hb2 : b < 256) (w : World) :
    Calls Tryz.prog 105 #[.int .i64 7, .int .i64 v, .int .i64 a, .int .i64 b] w fun e w' => e = .returned (.int .i64 ((a.toNat ||| b.toNat : Nat))) ∧ w' = w := by
  go_enter Tryz.func105, Tryz.ntmps105
  go_wp2
  go_ret
  exact ⟨ret_int (by first | rfl | exact i64_or a b ha ha2 hb hb2 | omega), rfl⟩

theorem calc_8 (v a b : Int) (ha : 0 ≤ a) (ha2 : a < 256) (hb : 0 ≤ b) (hb2 : b < 256) (w : World) :
    Calls Tryz.prog 105 #[.int .i64 8, .int .i64 v, .int .i64 a, .int .i64 b] w fun e w' => e = .returned (.int .i64 ((a.toNat ^^^ b.toNat : Nat))) ∧ w' = w := by
  go_enter Tryz.func105, Tryz.ntmps105
  go_wp2
  go_ret
  exact ⟨ret_int (by first | rfl | exact i64_xor a b ha ha2 hb hb2 | omega), rfl⟩

theorem calc_9 (v a b : Int) (ha : 0 ≤ a) (ha2 : a < 256) (hb : 0 ≤ b) (hb2 : b < 256) (w : World) :
    Calls Tryz.prog 105 #[.int .i64 9, .int .i64 v, .int .i64 a, .int .i64 b] w fun e w' => e = .returned (.int .i64 (a + b)) ∧ w' = w := by
  go_enter Tryz.func105, Tryz.ntmps105
  go_wp2
  go_ret
  exact ⟨ret_int (by first | rfl | exact rfl | omega), rfl⟩

theorem calc_10 (v a b : Int) (ha : 0 ≤ a) (ha2 : a < 256) (hb : 0 ≤ b) (hb2 : b < 256) (w : World) :
    Calls Tryz.prog 105 #[.int .i64 10, .int .i64 v, .int .i64 a, .int .i64 b] w fun e w' => e = .returned (.int .i64 (a - b)) ∧ w' = w := by
  go_enter Tryz.func105, Tryz.ntmps105
  go_wp2
  go_ret
  exact ⟨ret_int (by first | rfl | exact rfl | omega), rfl⟩

theorem calc_11 (v a b : Int) (ha : 0 ≤ a) (ha2 : a < 256) (hb : 0 ≤ b) (hb2 : b < 256) (w : World) :
    Calls Tryz.prog 105 #[.int .i64 11, .int .i64 v, .int .i64 a, .int .i64 b] w fun e w' => e = .returned (.int .i64 (a * b)) ∧ w' = w := by
  have h1 : 0 ≤ a * b := Int.mul_nonneg ha hb
  have h2 : a * b ≤ 256 * 256 := Int.mul_le_mul (by omega) (by omega) hb (by omega)
  go_enter Tryz.func105, Tryz.ntmps105
  go_wp2
  go_ret
  exact ⟨rfl, rfl⟩

/-- How often; what is left; up; down. -/
def divE (a b : Int) : Int := if b = 0 then -1 else a / b
def remE (a b : Int) : Int := if b = 0 then a else a % b
def shlE (v a b : Int) : Int := if v ≤ b then 0 else a * two b
def shrE (v a b : Int) : Int := if v ≤ b then 0 else a / two b

theorem calc_12 (v a b : Int) (ha : 0 ≤ a) (ha2 : a < 256) (hb : 0 ≤ b) (hb2 : b < 256) (w : World) :
    Calls Tryz.prog 105 #[.int .i64 12, .int .i64 v, .int .i64 a, .int .i64 b] w fun e w' => e = .returned (.int .i64 (divE a b)) ∧ w' = w := by
  unfold divE
  by_cases h : b = 0
  · rw [if_pos h]
    subst h
    go_enter Tryz.func105, Tryz.ntmps105
    go_wp2
    go_ret
    exact ⟨rfl, rfl⟩
  · rw [if_neg h]
    go_enter Tryz.func105, Tryz.ntmps105
    go_wp2
    all_goals go_ret
    exact ⟨rfl, rfl⟩

theorem calc_13 (v a b : Int) (ha : 0 ≤ a) (ha2 : a < 256) (hb : 0 ≤ b) (hb2 : b < 256) (w : World) :
    Calls Tryz.prog 105 #[.int .i64 13, .int .i64 v, .int .i64 a, .int .i64 b] w fun e w' => e = .returned (.int .i64 (remE a b)) ∧ w' = w := by
  unfold remE
  by_cases h : b = 0
  · rw [if_pos h]
    subst h
    go_enter Tryz.func105, Tryz.ntmps105
    go_wp2
    go_ret
    exact ⟨rfl, rfl⟩
  · rw [if_neg h]
    go_enter Tryz.func105, Tryz.ntmps105
    go_wp2
    all_goals go_ret
    exact ⟨rfl, rfl⟩


theorem calc_14 (v a b : Int) (hv : v ≤ 8) (ha : 0 ≤ a) (ha2 : a < 256) (hb : 0 ≤ b) (w : World) :
    Calls Tryz.prog 105 #[.int .i64 14, .int .i64 v, .int .i64 a, .int .i64 b] w fun e w' => e = .returned (.int .i64 (shlE v a b)) ∧ w' = w := by
  unfold shlE
  by_cases h : v ≤ b
  · rw [if_pos h]
    go_enter Tryz.func105, Tryz.ntmps105
    go_wp2_with (go_at_call 119; refine (shift_far _ _ _ _ h _).mono ?_; rintro e w' ⟨rfl, rfl⟩)
    go_ret
    exact ⟨rfl, rfl⟩
  · rw [if_neg h]
    go_enter Tryz.func105, Tryz.ntmps105
    go_wp2_with (go_at_call 119; refine (shift_up _ _ _ (by omega) hv hb ha ha2 _).mono ?_; rintro e w' ⟨rfl, rfl⟩)
    go_ret
    exact ⟨rfl, rfl⟩

theorem calc_15 (v a b : Int) (hv : v ≤ 8) (hb : 0 ≤ b) (w : World) :
    Calls Tryz.prog 105 #[.int .i64 15, .int .i64 v, .int .i64 a, .int .i64 b] w fun e w' => e = .returned (.int .i64 (shrE v a b)) ∧ w' = w := by
  unfold shrE
  by_cases h : v ≤ b
  · rw [if_pos h]
    go_enter Tryz.func105, Tryz.ntmps105
    go_wp2_with (go_at_call 119; refine (shift_far _ _ _ _ h _).mono ?_; rintro e w' ⟨rfl, rfl⟩)
    go_ret
    exact ⟨rfl, rfl⟩
  · rw [if_neg h]
    go_enter Tryz.func105, Tryz.ntmps105
    go_wp2_with (go_at_call 119; refine (shift_down _ _ _ (by omega) hv hb _).mono ?_; rintro e w' ⟨rfl, rfl⟩)
    go_ret
    exact ⟨rfl, rfl⟩

/-- 1 or 0. -/
def yesOf (b : Bool) : Int := if b then 1 else 0

theorem cmp_16 (a b v : Int) (w : World) :
    Calls Tryz.prog 102 #[.int .i64 16, .int .i64 a, .int .i64 b, .int .i64 v] w fun e w' => e = .returned (.int .i64 (yesOf (a == b))) ∧ w' = w := by
  by_cases h : a = b
  · have hb : (a == b) = true := by simp [h]
    have hy : Hid (yesOf (a == b) = 1) := by rw [hb]; rfl
    clear h
    go_enter Tryz.func102, Tryz.ntmps102
    go_wp2
    go_ret
    exact ⟨ret_int hy.out.symm, rfl⟩
  · have hb : (a == b) = false := by simp [h]
    have hy : Hid (yesOf (a == b) = 0) := by rw [hb]; rfl
    clear h
    go_enter Tryz.func102, Tryz.ntmps102
    go_wp2
    go_ret
    exact ⟨ret_int hy.out.symm, rfl⟩

theorem cmp_17 (a b v : Int) (w : World) :
    Calls Tryz.prog 102 #[.int .i64 17, .int .i64 a, .int .i64 b, .int .i64 v] w fun e w' => e = .returned (.int .i64 (yesOf (decide (a < b)))) ∧ w' = w := by
  by_cases h : a < b
  · have hy : Hid (yesOf (decide (a < b)) = 1) := by simp [yesOf, h, Hid]
    go_enter Tryz.func102, Tryz.ntmps102
    go_wp2
    go_ret
    exact ⟨ret_int hy.out.symm, rfl⟩
  · have hy : Hid (yesOf (decide (a < b)) = 0) := by simp [yesOf, h, Hid]
    go_enter Tryz.func102, Tryz.ntmps102
    go_wp2
    go_ret
    exact ⟨ret_int hy.out.symm, rfl⟩

theorem cmp_18 (a b v : Int) (hv : 1 ≤ v ∧ v ≤ 8) (ha : 0 ≤ a) (ha2 : a < two v) (hb : 0 ≤ b) (hb2 : b < two v) (w : World) :
    Calls Tryz.prog 102 #[.int .i64 18, .int .i64 a, .int .i64 b, .int .i64 v] w fun e w' => e = .returned (.int .i64 (yesOf (decide (sgn a v < sgn b v)))) ∧ w' = w := by
  by_cases h : sgn a v < sgn b v
  · have hy : Hid (yesOf (decide (sgn a v < sgn b v)) = 1) := by simp [yesOf, h, Hid]
    go_enter Tryz.func102, Tryz.ntmps102
    go_wp2_with fail
    refine (signed_any a v hv ha ha2 _).mono ?_
    rintro e w' ⟨rfl, rfl⟩
    go_wp2_with fail
    refine (signed_any b v hv hb hb2 _).mono ?_
    rintro e w' ⟨rfl, rfl⟩
    go_wp2
    go_ret
    exact ⟨ret_int hy.out.symm, rfl⟩
  · have hy : Hid (yesOf (decide (sgn a v < sgn b v)) = 0) := by simp [yesOf, h, Hid]
    go_enter Tryz.func102, Tryz.ntmps102
    go_wp2_with fail
    refine (signed_any a v hv ha ha2 _).mono ?_
    rintro e w' ⟨rfl, rfl⟩
    go_wp2_with fail
    refine (signed_any b v hv hb hb2 _).mono ?_
    rintro e w' ⟨rfl, rfl⟩
    go_wp2
    go_ret
    exact ⟨ret_int hy.out.symm, rfl⟩

theorem wide_22 (v a f : Int) (w : World) :
    Calls Tryz.prog 104 #[.int .i64 22, .int .i64 v, .int .i64 a, .int .i64 f] w fun e w' => e = .returned (.int .i64 a) ∧ w' = w := by
  go_enter Tryz.func104, Tryz.ntmps104
  go_wp2
  go_ret
  exact ⟨rfl, rfl⟩

theorem wide_23 (v a f : Int) (hv : 0 ≤ v ∧ v ≤ 8) (hf : 1 ≤ f ∧ f ≤ 8) (ha : 0 ≤ a) (ha2 : a < two f) (w : World) :
    Calls Tryz.prog 104 #[.int .i64 23, .int .i64 v, .int .i64 a, .int .i64 f] w fun e w' => e = .returned (.int .i64 (sgn a f % two v)) ∧ w' = w := by
  go_enter Tryz.func104, Tryz.ntmps104
  go_wp2_with (first | (go_at_call 118; refine (signed_any a f hf ha ha2 _).mono ?_; rintro e w' ⟨rfl, rfl⟩) | (go_at_call 103; refine (within_any _ v hv _).mono ?_; rintro e w' ⟨rfl, rfl⟩))
  go_ret
  exact ⟨rfl, rfl⟩

end Go.Proofs.YtfobcnhibhbbaaaGreatDoor.Ev
