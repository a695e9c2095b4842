/- Words: what the small calls of Apply return. -/
import Derived.Test.YtabnimgpednhjaaDoorWaM
import Derived.Deep.Light
import Derived.Deep.RegionWith
namespace Go.Proofs.YtabnimgpednhjaaDoor.Ev
open Go.RowKit
set_option maxRecDepth 100000

/-- Two to the power of w. -/
def two (w : Int) : Int := 2 ^ w.toNat
theorem two0 : two 0 = 1 := rfl
theorem two1 : two 1 = 2 := rfl
theorem two2 : two 2 = 4 := rfl
theorem two3 : two 3 = 8 := rfl
theorem two4 : two 4 = 16 := rfl
theorem two5 : two 5 = 32 := rfl
theorem two6 : two 6 = 64 := rfl
theorem two7 : two 7 = 128 := rfl
theorem two8 : two 8 = 256 := rfl

theorem nine {w : Int} (h : 0 ≤ w ∧ w ≤ 8) : w = 0 ∨ w = 1 ∨ w = 2 ∨ w = 3 ∨ w = 4 ∨ w = 5 ∨ w = 6 ∨ w = 7 ∨ w = 8 := by omega

theorem eight_lo {w : Int} (h : 0 ≤ w ∧ w ≤ 7) : w = 0 ∨ w = 1 ∨ w = 2 ∨ w = 3 ∨ w = 4 ∨ w = 5 ∨ w = 6 ∨ w = 7 := by omega

theorem ofInt64_toNat (x : Int) : ((BitVec.ofInt 64 x).toNat : Int) = x % 18446744073709551616 := by
  rw [BitVec.toNat_ofInt]
  have : (0 : Int) ≤ x % 18446744073709551616 := Int.emod_nonneg _ (by decide)
  show ((x % (2 ^ 64 : Nat)).toNat : Int) = _
  rw [show ((2 ^ 64 : Nat) : Int) = 18446744073709551616 from rfl]
  omega

theorem wrap_small (n : Nat) (h : n < 256) : IntKind.i64.wrap (n : Int) = n := by
  rw [IntKind.wrap_i64]
  omega

theorem mask_nat (x : Int) (i : Nat) (hi : i ≤ 8) : (((BitVec.ofInt 64 x).toNat % 2 ^ i : Nat) : Int) = x % 2 ^ i := by
  rw [Int.natCast_emod, ofInt64_toNat]
  have h : ((2 ^ i : Nat) : Int) = 2 ^ i := by simp
  rw [h]
  apply Int.emod_emod_of_dvd
  exact ⟨2 ^ (64 - i), by rw [← Int.pow_add]; rw [show i + (64 - i) = 64 from by omega]; rfl⟩

theorem bits_mask (x : Int) (i : Nat) (hi : i ≤ 8) (m : Int) (hm : m = (2 ^ i - 1 : Nat)) : bits .and .i64 x m = x % 2 ^ i := by
  subst hm
  show IntKind.i64.wrap ((BitVec.ofInt 64 x &&& BitVec.ofInt 64 ((2 ^ i - 1 : Nat) : Int)).toNat : Int) = _
  have h2 : 2 ^ i ≤ 2 ^ 8 := Nat.pow_le_pow_right (by omega) hi
  have h0 : 0 < 2 ^ i := Nat.two_pow_pos i
  rw [BitVec.toNat_and, BitVec.ofInt_natCast, BitVec.toNat_ofNat, Nat.mod_eq_of_lt (a := 2 ^ i - 1) (by omega), Nat.and_two_pow_sub_one_eq_mod]
  have hlt : (BitVec.ofInt 64 x).toNat % 2 ^ i < 2 ^ i := Nat.mod_lt _ h0
  rw [wrap_small _ (by omega), mask_nat x i hi]

/-- Is it a word of so many bits? -/
def isW (x v : Int) : Bool := decide (0 ≤ x ∧ x < two v)
theorem isW_iff {x v : Int} : isW x v = true ↔ 0 ≤ x ∧ x < two v := by simp [isW]

set_option maxHeartbeats 400000 in
theorem isWord_any (x v : Int) (hv : 0 ≤ v ∧ v ≤ 8) (w : World) :
    Calls Tryd.prog 59 #[.int .i64 x, .int .i64 v] w fun e w' => e = .returned (.bool (isW x v)) ∧ w' = w := by
  rcases nine hv with rfl | rfl | rfl | rfl | rfl | rfl | rfl | rfl | rfl
  all_goals
    go_enter Tryd.func59, Tryd.ntmps59
    go_wp2
    all_goals
      go_ret
      exact ⟨ret_bool (by rw [Bool.eq_iff_iff, isW_iff]; simp [two0, two1, two2, two3, two4, two5, two6, two7, two8]; try omega), rfl⟩

/-- A word's number, where its upmost bit counts as its opposite. -/
def sgn (a v : Int) : Int := if a < two (v - 1) then a else a - two v

theorem two_bd {v : Int} (hv : 0 ≤ v ∧ v ≤ 8) : 1 ≤ two v ∧ two v ≤ 256 := by
  rcases nine hv with rfl | rfl | rfl | rfl | rfl | rfl | rfl | rfl | rfl <;> simp [two]

end Go.Proofs.YtabnimgpednhjaaDoor.Ev

namespace Go.Proofs.YtabnimgpednhjaaDoor.Ev
open Go.RowKit
set_option maxRecDepth 100000

theorem toNat64 (a : Nat) (ha : a < 256) : (BitVec.ofInt 64 (a : Int)).toNat = a := by
  rw [BitVec.ofInt_natCast, BitVec.toNat_ofNat]; exact Nat.mod_eq_of_lt (by omega)

theorem i64_and (a b : Int) (h1 : 0 ≤ a) (h2 : a < 256) (h3 : 0 ≤ b) (h4 : b < 256) : bits .and .i64 a b = ((a.toNat &&& b.toNat : Nat) : Int) := by
  obtain ⟨A, rfl⟩ := Int.eq_ofNat_of_zero_le h1
  obtain ⟨B, rfl⟩ := Int.eq_ofNat_of_zero_le h3
  have hx : A &&& B < 2 ^ 8 := Nat.and_lt_two_pow _ (by omega)
  show IntKind.i64.wrap ((BitVec.ofInt 64 (A : Int) &&& BitVec.ofInt 64 (B : Int)).toNat : Int) = _
  rw [BitVec.toNat_and, toNat64 A (by omega), toNat64 B (by omega), wrap_small _ (by omega)]
  simp

theorem i64_or (a b : Int) (h1 : 0 ≤ a) (h2 : a < 256) (h3 : 0 ≤ b) (h4 : b < 256) : bits .or .i64 a b = ((a.toNat ||| b.toNat : Nat) : Int) := by
  obtain ⟨A, rfl⟩ := Int.eq_ofNat_of_zero_le h1
  obtain ⟨B, rfl⟩ := Int.eq_ofNat_of_zero_le h3
  have hx : A ||| B < 2 ^ 8 := Nat.or_lt_two_pow (by omega) (by omega)
  show IntKind.i64.wrap ((BitVec.ofInt 64 (A : Int) ||| BitVec.ofInt 64 (B : Int)).toNat : Int) = _
  rw [BitVec.toNat_or, toNat64 A (by omega), toNat64 B (by omega), wrap_small _ (by omega)]
  simp

theorem i64_xor (a b : Int) (h1 : 0 ≤ a) (h2 : a < 256) (h3 : 0 ≤ b) (h4 : b < 256) : bits .xor .i64 a b = ((a.toNat ^^^ b.toNat : Nat) : Int) := by
  obtain ⟨A, rfl⟩ := Int.eq_ofNat_of_zero_le h1
  obtain ⟨B, rfl⟩ := Int.eq_ofNat_of_zero_le h3
  have hx : A ^^^ B < 2 ^ 8 := Nat.xor_lt_two_pow (by omega) (by omega)
  show IntKind.i64.wrap ((BitVec.ofInt 64 (A : Int) ^^^ BitVec.ofInt 64 (B : Int)).toNat : Int) = _
  rw [BitVec.toNat_xor, toNat64 A (by omega), toNat64 B (by omega), wrap_small _ (by omega)]
  simp

theorem i64_not (a : Int) (h1 : 0 ≤ a) (h2 : a < 256) : bits .xor .i64 (-1) a = - a - 1 := by
  obtain ⟨A, rfl⟩ := Int.eq_ofNat_of_zero_le h1
  show IntKind.i64.wrap ((BitVec.ofInt 64 (-1) ^^^ BitVec.ofInt 64 (A : Int)).toNat : Int) = _
  rw [show BitVec.ofInt 64 (-1) = BitVec.allOnes 64 from by decide, BitVec.allOnes_xor, BitVec.toNat_not, toNat64 A (by omega), IntKind.wrap_i64]
  omega

/-- How often; what is left; up; down. -/
def divE (a b : Int) : Int := if b = 0 then -1 else a / b
def remE (a b : Int) : Int := if b = 0 then a else a % b
def shlE (v a b : Int) : Int := if v ≤ b then 0 else a * two b
def shrE (v a b : Int) : Int := if v ≤ b then 0 else a / two b

/-- 1 or 0. -/
def yesOf (b : Bool) : Int := if b then 1 else 0

end Go.Proofs.YtabnimgpednhjaaDoor.Ev

namespace Go.Proofs.YtabnimgpednhjaaDoor.Ev
open Go.RowKit
set_option maxRecDepth 100000

/-- Three widths, as a value. -/
abbrev arr3 (a b c : Int) : Value := .agg #[.int .i64 a, .int .i64 b, .int .i64 c]

def rngOk (t a b c : Int) : Bool :=
  (if 0 < t then btw a 1 8 else a == 0) && (if 1 < t then btw b 1 8 else b == 0) && (if 2 < t then btw c 1 8 else c == 0)

def metOk (o da db dc own n a b c : Int) : Bool :=
  askOk o own own a n && askOk da a own a n && askOk db b own a n && askOk dc c own a n

set_option maxHeartbeats 400000 in
theorem met_any (o da db dc own n a b c : Int) (w : World)
    (b1 : 0 ≤ own ∧ own ≤ 8) (b2 : 0 ≤ a ∧ a ≤ 8) (b3 : 0 ≤ b ∧ b ≤ 8) (b4 : 0 ≤ c ∧ c ≤ 8) :
    Calls Tryd.prog 74 #[dm o da db dc, .int .i64 own, .int .i64 n, arr3 a b c] w fun e w' => e = .returned (.bool (metOk o da db dc own n a b c)) ∧ w' = (((w.alloc (.cells #[.int .i64 o, .int .i64 da, .int .i64 db, .int .i64 dc] 122)).alloc (.cells #[.int .i64 own] 3)).alloc (.cells #[.int .i64 n] 3)).alloc (.cells #[.int .i64 a, .int .i64 b, .int .i64 c] 108) := by
  have hmf : ∀ (fn : Fn) (first cap : Array Value) (w : World), (Instr.makeFunc fn first cap).run Tryd.prog w = .ok (.func fn first cap) w := fun _ _ _ _ => rfl
  go_enter Tryd.func74, Tryd.ntmps74
  go_wp2_with (go_at_call 87; refine (meets_any _ _ own n a _ _ _ _ (by simp [go_sem]) (by simp [go_sem]) (by simp [go_sem]) (by omega) (by omega) (by omega)).mono ?_; rintro e w' ⟨rfl, rfl⟩)
  all_goals
    go_ret
    exact ⟨ret_bool (by unfold metOk; simp [*]), rfl⟩

set_option maxRecDepth 100000 in
set_option maxHeartbeats 1000000 in
theorem inRange_at (k a b c t : Int) (ht : takes k = t) (h4 : t = 0 ∨ t = 1 ∨ t = 2 ∨ t = 3) (w : World) :
    Calls Tryd.prog 73 #[.int .i64 k, arr3 a b c] w fun e w' => e = .returned (.bool (rngOk t a b c)) ∧ w' = w.alloc (.cells #[.int .i64 a, .int .i64 b, .int .i64 c] 108) := by
  have i0 : ∀ w : World, (Instr.index 108 (arr3 a b c) (.int .i64 0)).run Tryd.prog w = .ok (.int .i64 a) w := fun _ => by kernel_rfl
  have i1 : ∀ w : World, (Instr.index 108 (arr3 a b c) (.int .i64 1)).run Tryd.prog w = .ok (.int .i64 b) w := fun _ => by kernel_rfl
  have i2 : ∀ w : World, (Instr.index 108 (arr3 a b c) (.int .i64 2)).run Tryd.prog w = .ok (.int .i64 c) w := fun _ => by kernel_rfl
  rcases h4 with rfl | rfl | rfl | rfl
  all_goals
    have hw := words_any k
    rw [ht] at hw
    have hw' : Hid _ := hw
    clear hw ht
    go_enter Tryd.func73, Tryd.ntmps73
    go_wp2_with (go_at_call 49; refine (hw'.out _).mono ?_; rintro e w' ⟨rfl, rfl⟩)
    refine wp_loop_rounds 4 ?_
    rw [rounds_succ]
    go_wp2_with (go_at_call 34; refine (isWidth_any _ _).mono ?_; rintro e w' ⟨rfl, rfl⟩)
    all_goals try (rw [rounds_succ]; go_wp2_with (go_at_call 34; refine (isWidth_any _ _).mono ?_; rintro e w' ⟨rfl, rfl⟩))
    all_goals try (rw [rounds_succ]; go_wp2_with (go_at_call 34; refine (isWidth_any _ _).mono ?_; rintro e w' ⟨rfl, rfl⟩))
    all_goals try (rw [rounds_succ]; go_wp2_with (go_at_call 34; refine (isWidth_any _ _).mono ?_; rintro e w' ⟨rfl, rfl⟩))
    all_goals
      go_ret
      exact ⟨ret_bool (by unfold rngOk; simp_all), rfl⟩

theorem takes_four (k : Int) : takes k = 0 ∨ takes k = 1 ∨ takes k = 2 ∨ takes k = 3 := by
  unfold takes
  (repeat' split) <;> simp

theorem inRange_any (k a b c : Int) (w : World) :
    Calls Tryd.prog 73 #[.int .i64 k, arr3 a b c] w fun e w' => e = .returned (.bool (rngOk (takes k) a b c)) ∧ w' = w.alloc (.cells #[.int .i64 a, .int .i64 b, .int .i64 c] 108) :=
  inRange_at k a b c _ rfl (takes_four k) w

theorem bal {w w1 : World} (h : Below w.heap.size w w1) (o : Obj) : Below w.heap.size w (w1.alloc o) := h.alloc h.size o

end Go.Proofs.YtabnimgpednhjaaDoor.Ev
