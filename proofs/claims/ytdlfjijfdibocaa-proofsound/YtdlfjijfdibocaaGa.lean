/- Gates: the small calls. -/
import Derived.Test.YtdlfjijfdibocaaProg
import Derived.WalkKit
import Derived.WalkSpells
import Derived.WalkLawsBesides
import Derived.Deep.QuietTactic
import Derived.BigQuiet
import Derived.Deep.RegionHeld3
namespace Go.Proofs.Ytdlfjijfdibocaa
open Go.RowKit
set_option maxRecDepth 100000

theorem ret_int {k : IntKind} {a b : Int} (h : a = b) : Ending.returned (.int k a) = .returned (.int k b) := by rw [h]
theorem ret_bool {a b : Bool} (h : a = b) : Ending.returned (.bool a) = .returned (.bool b) := by rw [h]
theorem hide {p : Prop} (h : p) : Hid p := h

/-- From lo to hi. -/
def btw (n lo hi : Int) : Bool := decide (lo ≤ n) && decide (n ≤ hi)
theorem btw_true {n lo hi : Int} : btw n lo hi = true ↔ lo ≤ n ∧ n ≤ hi := by simp [btw]
theorem btw_false {n lo hi : Int} : btw n lo hi = false ↔ ¬ (lo ≤ n ∧ n ≤ hi) := by rw [← btw_true]; simp

theorem bal {w w1 : World} (h : Below w.heap.size w w1) (o : Obj) : Below w.heap.size w (w1.alloc o) := h.alloc h.size o
theorem bthen {w w1 w2 : World} (h : Below w.heap.size w w1) (k : Below w1.heap.size w1 w2) : Below w.heap.size w w2 := h.trans (k.mono h.size)
theorem past1 {w : World} {p : Addr} {v : Value} (h : w.cell? p = some v) (o : Obj) : (w.alloc o).cell? p = some v := cell_later (bal (Below.refl _ _) o) h

theorem literal_any (x : Int) (h : 0 ≤ x) (h2 : x ≤ 10000000) (w : World) :
    Calls Try.prog 43 #[.int .i64 x] w fun e w' => e = .returned (.int .i64 (2 * x)) ∧ w' = w := by
  go_enter Try.func43, Try.ntmps43
  go_wp2
  go_ret
  exact ⟨rfl, rfl⟩

theorem node_any (x : Int) (h : 0 ≤ x) (h2 : x ≤ 9223372036854775807) (w : World) :
    Calls Try.prog 56 #[.int .i64 x] w fun e w' => e = .returned (.int .i64 (x / 2)) ∧ w' = w := by
  go_enter Try.func56, Try.ntmps56
  go_wp2
  go_ret
  exact ⟨rfl, rfl⟩

def odd (x : Int) : Bool := x % 2 == 1

theorem isTurned_any (x : Int) (h : 0 ≤ x) (h2 : x ≤ 9223372036854775807) (w : World) :
    Calls Try.prog 55 #[.int .i64 x] w fun e w' => e = .returned (.bool (odd x)) ∧ w' = w := by
  have HE : Hid (odd x = (x % 2 == 1)) := rfl
  go_enter Try.func55, Try.ntmps55
  go_wp2
  go_ret
  exact ⟨ret_bool HE.out.symm, rfl⟩

/-- A literal, turned round. -/
def turn (x : Int) : Int := if odd x then x - 1 else x + 1

theorem toNat64 (a : Nat) (ha : a < 9223372036854775808) : (BitVec.ofInt 64 (a : Int)).toNat = a := by
  rw [BitVec.ofInt_natCast, BitVec.toNat_ofNat]; exact Nat.mod_eq_of_lt (by omega)

theorem xor_one (A : Nat) : A ^^^ 1 = if A % 2 = 1 then A - 1 else A + 1 := by
  have h : A ^^^ 1 = 2 * (A / 2) + (1 - A % 2) := by
    apply Nat.eq_of_testBit_eq
    intro i
    rw [Nat.testBit_xor]
    cases i with
    | zero =>
      simp only [Nat.testBit_zero]
      rcases Nat.mod_two_eq_zero_or_one A with h | h <;> simp [h] <;> omega
    | succ i =>
      rw [Nat.testBit_succ, Nat.testBit_succ, Nat.testBit_succ]
      have e1 : 1 / 2 = 0 := rfl
      have e2 : (2 * (A / 2) + (1 - A % 2)) / 2 = A / 2 := by omega
      rw [e1, e2]
      simp
  rw [h]
  split <;> omega

theorem turn_bits (x : Int) (h : 0 ≤ x) (h2 : x ≤ 10000000) : bits .xor .i64 x 1 = turn x := by
  obtain ⟨A, rfl⟩ := Int.eq_ofNat_of_zero_le h
  show IntKind.i64.wrap ((BitVec.ofInt 64 (A : Int) ^^^ BitVec.ofInt 64 ((1 : Nat) : Int)).toNat : Int) = _
  rw [BitVec.toNat_xor, toNat64 A (by omega), toNat64 1 (by omega), xor_one, IntKind.wrap_i64]
  unfold turn odd
  by_cases hA : A % 2 = 1
  · have e : ((A : Int) % 2 == 1) = true := by simp; omega
    rw [if_pos hA, e, if_pos rfl]; omega
  · have e : ((A : Int) % 2 == 1) = false := by simp; omega
    rw [if_neg hA, e, if_neg (by decide)]; omega

/-- A graph's value. -/
abbrev gval (ins : Int) (p : Option Addr) (len cap : Nat) : Value := .agg #[.int .i64 ins, .slice p len cap]

theorem nodes_any (ins : Int) (p : Option Addr) (len cap : Nat) (h0 : 0 ≤ ins) (h1 : ins ≤ 1000) (h2 : len ≤ 1000001) (w : World) :
    Calls Try.prog 44 #[gval ins p len cap] w fun e w' => e = .returned (.int .i64 (1 + ins + len)) ∧ Below w.heap.size w w' := by
  go_enter Try.func44, Try.ntmps44
  go_wp2
  go_ret
  exact ⟨rfl, bal (Below.refl _ _) _⟩

/-- May an And of these two literals be this node? -/
def standB (a b n : Int) : Bool := decide (1 < a) && decide (a < b) && (a / 2 != b / 2) && decide (b / 2 < n)

abbrev arr2 (a b : Int) : Value := .agg #[.int .i64 a, .int .i64 b]

theorem bdn {B : Nat} {a w : World} (h : Below B a w) (n : Nat) : Below B a (w.drewN n) := ⟨h.os, h.tape, h.output, h.size, h.block⟩

set_option maxHeartbeats 1000000 in
theorem stands_any (a b n : Int) (hb : b ≤ 9223372036854775807) (w : World) :
    Calls Try.prog 53 #[arr2 a b, .int .i64 n] w fun e w' => e = .returned (.bool (standB a b n)) ∧ Below w.heap.size w w' := by
  have HE : Hid (standB a b n = (decide (1 < a) && decide (a < b) && (a / 2 != b / 2) && decide (b / 2 < n))) := rfl
  generalize standB a b n = R at *
  have hbl : Below w.heap.size w (w.alloc (.cells #[.int .i64 a, .int .i64 b] 36)) := bal (Below.refl _ _) _
  by_cases h1 : 1 < a
  · by_cases h2 : a < b
    · by_cases h3 : a / 2 = b / 2
      · have HX : Hid (R = false) := by rw [HE.out, h3]; simp [Hid]
        have h3' : (a / 2 != b / 2) = false := by simp [h3]
        go_enter Try.func53, Try.ntmps53
        go_wp2
        go_quiet (fail)
        go_wp2_with (go_at_call 56; refine (node_any _ (by omega) (by omega) _).mono ?_; rintro e w' ⟨rfl, rfl⟩)
        go_ret
        exact ⟨ret_bool HX.out.symm, bdn hbl _⟩
      · have HX : Hid (R = (a / 2 != b / 2 && decide (b / 2 < n))) := by rw [HE.out]; simp [h1, h2, Hid]
        go_enter Try.func53, Try.ntmps53
        go_wp2
        go_quiet (fail)
        go_wp2_with (go_at_call 56; refine (node_any _ (by omega) (by omega) _).mono ?_; rintro e w' ⟨rfl, rfl⟩)
        go_ret
        exact ⟨ret_bool HX.out.symm, bdn hbl _⟩
    · have HX : Hid (R = false) := by rw [HE.out]; simp [h2, Hid]
      go_enter Try.func53, Try.ntmps53
      go_wp2
      go_quiet (fail)
      go_wp2
      go_ret
      exact ⟨ret_bool HX.out.symm, bdn hbl _⟩
  · have HX : Hid (R = false) := by rw [HE.out]; simp [h1, Hid]
    go_enter Try.func53, Try.ntmps53
    go_wp2
    go_quiet (fail)
    go_wp2
    go_ret
    exact ⟨ret_bool HX.out.symm, bdn hbl _⟩

/-- What lies at a list of numbers. -/
def IntsAt (w : World) (p : Option Addr) (l : List Int) : Prop :=
  0 < l.length → ∃ b off, p = some ⟨b, off, none⟩ ∧ ∀ (i : Nat) (h : i < l.length), w.cell? ⟨b, off + i, none⟩ = some (.int .i64 l[i])
theorem IntsAt.later {w w1 : World} {p : Option Addr} {l : List Int} (h : IntsAt w p l) (hb : Below w.heap.size w w1) : IntsAt w1 p l := by
  intro h0
  obtain ⟨b, off, hp, hc⟩ := h h0
  exact ⟨b, off, hp, fun i hi => cell_later hb (hc i hi)⟩

/-- What lies at a list of bools. -/
def BoolsAt (w : World) (p : Option Addr) (l : List Bool) : Prop :=
  0 < l.length → ∃ b off, p = some ⟨b, off, none⟩ ∧ ∀ (i : Nat) (h : i < l.length), w.cell? ⟨b, off + i, none⟩ = some (.bool l[i])
theorem BoolsAt.later {w w1 : World} {p : Option Addr} {l : List Bool} (h : BoolsAt w p l) (hb : Below w.heap.size w w1) : BoolsAt w1 p l := by
  intro h0
  obtain ⟨b, off, hp, hc⟩ := h h0
  exact ⟨b, off, hp, fun i hi => cell_later hb (hc i hi)⟩

/-- What lies at a list of pairs. -/
def PairsAt (w : World) (p : Option Addr) (l : List (Int × Int)) : Prop :=
  0 < l.length → ∃ b off, p = some ⟨b, off, none⟩ ∧ ∀ (i : Nat) (h : i < l.length), w.cell? ⟨b, off + i * 2, none⟩ = some (.int .i64 l[i].1) ∧ w.cell? ⟨b, off + i * 2 + 1, none⟩ = some (.int .i64 l[i].2)
theorem PairsAt.later {w w1 : World} {p : Option Addr} {l : List (Int × Int)} (h : PairsAt w p l) (hb : Below w.heap.size w w1) : PairsAt w1 p l := by
  intro h0
  obtain ⟨b, off, hp, hc⟩ := h h0
  exact ⟨b, off, hp, fun i hi => ⟨cell_later hb (hc i hi).1, cell_later hb (hc i hi).2⟩⟩

end Go.Proofs.Ytdlfjijfdibocaa
