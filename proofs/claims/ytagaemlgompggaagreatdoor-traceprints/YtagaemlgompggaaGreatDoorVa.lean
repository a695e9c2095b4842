/- Words: what the small calls of Apply return. -/
import Derived.Test.YtagaemlgompggaaGreatDoorWa
import Derived.Deep.Light
namespace Go.Proofs.YtagaemlgompggaaGreatDoor.Ev
open Go.RowKit
set_option maxRecDepth 100000

/-- Two to the power of w. -/
def two (w : Int) : Int := 2 ^ w.toNat
theorem two0 : two 0 = 1 := rfl
theorem two1 : two 1 = 2 := rfl
theorem two2 : two 2 = 4 := rfl
theorem two3 : two 3 = 8 := rfl
theorem two4 : two 4 = 16 := rfl
theorem two5 : two 5 = 32 := rfl
theorem two6 : two 6 = 64 := rfl
theorem two7 : two 7 = 128 := rfl
theorem two8 : two 8 = 256 := rfl

theorem nine {w : Int} (h : 0 ≤ w ∧ w ≤ 8) : w = 0 ∨ w = 1 ∨ w = 2 ∨ w = 3 ∨ w = 4 ∨ w = 5 ∨ w = 6 ∨ w = 7 ∨ w = 8 := by omega

theorem eight_lo {w : Int} (h : 0 ≤ w ∧ w ≤ 7) : w = 0 ∨ w = 1 ∨ w = 2 ∨ w = 3 ∨ w = 4 ∨ w = 5 ∨ w = 6 ∨ w = 7 := by omega

theorem ofInt64_toNat (x : Int) : ((BitVec.ofInt 64 x).toNat : Int) = x % 18446744073709551616 := by
  rw [BitVec.toNat_ofInt]
  have : (0 : Int) ≤ x % 18446744073709551616 := Int.emod_nonneg _ (by decide)
  show ((x % (2 ^ 64 : Nat)).toNat : Int) = _
  rw [show ((2 ^ 64 : Nat) : Int) = 18446744073709551616 from rfl]
  omega

theorem wrap_small (n : Nat) (h : n < 256) : IntKind.i64.wrap (n : Int) = n := by
  rw [IntKind.wrap_i64]
  omega

theorem mask_nat (x : Int) (i : Nat) (hi : i ≤ 8) : (((BitVec.ofInt 64 x).toNat % 2 ^ i : Nat) : Int) = x % 2 ^ i := by
  rw [Int.natCast_emod, ofInt64_toNat]
  have h : ((2 ^ i : Nat) : Int) = 2 ^ i := by simp
  rw [h]
  apply Int.emod_emod_of_dvd
  exact ⟨2 ^ (64 - i), by rw [← Int.pow_add]; rw [show i + (64 - i) = 64 from by omega]; rfl⟩

theorem bits_mask (x : Int) (i : Nat) (hi : i ≤ 8) (m : Int) (hm : m = (2 ^ i - 1 : Nat)) : bits .and .i64 x m = x % 2 ^ i := by
  subst hm
  show IntKind.i64.wrap ((BitVec.ofInt 64 x &&& BitVec.ofInt 64 ((2 ^ i - 1 : Nat) : Int)).toNat : Int) = _
  have h2 : 2 ^ i ≤ 2 ^ 8 := Nat.pow_le_pow_right (by omega) hi
  have h0 : 0 < 2 ^ i := Nat.two_pow_pos i
  rw [BitVec.toNat_and, BitVec.ofInt_natCast, BitVec.toNat_ofNat, Nat.mod_eq_of_lt (a := 2 ^ i - 1) (by omega), Nat.and_two_pow_sub_one_eq_mod]
  have hlt : (BitVec.ofInt 64 x).toNat % 2 ^ i < 2 ^ i := Nat.mod_lt _ h0
  rw [wrap_small _ (by omega), mask_nat x i hi]

/-- Is it a word of so many bits? -/
def isW (x v : Int) : Bool := decide (0 ≤ x ∧ x < two v)
theorem isW_iff {x v : Int} : isW x v = true ↔ 0 ≤ x ∧ x < two v := by simp [isW]

set_option maxHeartbeats 400000 in
theorem isWord_any (x v : Int) (hv : 0 ≤ v ∧ v ≤ 8) (w : World) :
    Calls Tryz.prog 80 #[.int .i64 x, .int .i64 v] w fun e w' => e = .returned (.bool (isW x v)) ∧ w' = w := by
  rcases nine hv with rfl | rfl | rfl | rfl | rfl | rfl | rfl | rfl | rfl
  all_goals
    go_enter Tryz.func80, Tryz.ntmps80
    go_wp2
    all_goals
      go_ret
      exact ⟨ret_bool (by rw [Bool.eq_iff_iff, isW_iff]; simp [two0, two1, two2, two3, two4, two5, two6, two7, two8]; try omega), rfl⟩

set_option maxHeartbeats 400000 in
theorem within_any (x v : Int) (hv : 0 ≤ v ∧ v ≤ 8) (w : World) :
    Calls Tryz.prog 116 #[.int .i64 x, .int .i64 v] w fun e w' => e = .returned (.int .i64 (x % two v)) ∧ w' = w := by
  have m0 := bits_mask x 0 (by omega) 0 rfl
  have m1 := bits_mask x 1 (by omega) 1 rfl
  have m2 := bits_mask x 2 (by omega) 3 rfl
  have m3 := bits_mask x 3 (by omega) 7 rfl
  have m4 := bits_mask x 4 (by omega) 15 rfl
  have m5 := bits_mask x 5 (by omega) 31 rfl
  have m6 := bits_mask x 6 (by omega) 63 rfl
  have m7 := bits_mask x 7 (by omega) 127 rfl
  have m8 := bits_mask x 8 (by omega) 255 rfl
  rcases nine hv with rfl | rfl | rfl | rfl | rfl | rfl | rfl | rfl | rfl
  all_goals
    go_enter Tryz.func116, Tryz.ntmps116
    go_wp2
    go_ret
    exact ⟨ret_int (by first | rfl | simp [two]), rfl⟩


/-- A word's number, where its upmost bit counts as its opposite. -/
def sgn (a v : Int) : Int := if a < two (v - 1) then a else a - two v

theorem two_bd {v : Int} (hv : 0 ≤ v ∧ v ≤ 8) : 1 ≤ two v ∧ two v ≤ 256 := by
  rcases nine hv with rfl | rfl | rfl | rfl | rfl | rfl | rfl | rfl | rfl <;> simp [two]

set_option maxHeartbeats 400000 in
theorem signed_any (a v : Int) (hv : 1 ≤ v ∧ v ≤ 8) (h0 : 0 ≤ a) (h1 : a < two v) (w : World) :
    Calls Tryz.prog 122 #[.int .i64 a, .int .i64 v] w fun e w' => e = .returned (.int .i64 (sgn a v)) ∧ w' = w := by
  have hb := (two_bd (v := v) (by omega)).2
  have h2 : a < 256 := by omega
  have H1 : Hid _ := h1
  clear h1 hb
  rcases nine (w := v) (by omega) with rfl | rfl | rfl | rfl | rfl | rfl | rfl | rfl | rfl
  · omega
  all_goals
    go_enter Tryz.func122, Tryz.ntmps122
    go_wp2
    go_ret
    refine ⟨ret_int ?_, rfl⟩
    have h1 := H1.out
    unfold sgn
    split <;> rename_i hc <;> simp [two] at hc h1 ⊢ <;> omega


set_option maxHeartbeats 400000 in
theorem shift_far (k v a b : Int) (h : v ≤ b) (w : World) :
    Calls Tryz.prog 123 #[.int .i64 k, .int .i64 v, .int .i64 a, .int .i64 b] w fun e w' => e = .returned (.int .i64 0) ∧ w' = w := by
  go_enter Tryz.func123, Tryz.ntmps123
  go_wp2
  go_ret
  exact ⟨rfl, rfl⟩

set_option maxHeartbeats 400000 in
theorem shift_up (v a b : Int) (h : b < v) (hv : v ≤ 8) (hb : 0 ≤ b) (ha : 0 ≤ a) (ha2 : a < 256) (w : World) :
    Calls Tryz.prog 123 #[.int .i64 14, .int .i64 v, .int .i64 a, .int .i64 b] w fun e w' => e = .returned (.int .i64 (a * two b)) ∧ w' = w := by
  rcases eight_lo (w := b) (by omega) with rfl | rfl | rfl | rfl | rfl | rfl | rfl | rfl
  all_goals
    go_enter Tryz.func123, Tryz.ntmps123
    go_wp2
    go_ret
    exact ⟨ret_int (by simp [two]), rfl⟩

set_option maxHeartbeats 400000 in
theorem shift_down (v a b : Int) (h : b < v) (hv : v ≤ 8) (hb : 0 ≤ b) (w : World) :
    Calls Tryz.prog 123 #[.int .i64 15, .int .i64 v, .int .i64 a, .int .i64 b] w fun e w' => e = .returned (.int .i64 (a / two b)) ∧ w' = w := by
  rcases eight_lo (w := b) (by omega) with rfl | rfl | rfl | rfl | rfl | rfl | rfl | rfl
  all_goals
    go_enter Tryz.func123, Tryz.ntmps123
    go_wp2
    go_ret
    exact ⟨ret_int (by simp [two]), rfl⟩

end Go.Proofs.YtagaemlgompggaaGreatDoor.Ev
