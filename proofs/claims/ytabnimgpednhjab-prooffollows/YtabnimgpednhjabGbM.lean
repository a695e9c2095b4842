/- Gates: the small calls. -/
import Derived.Test.YtabnimgpednhjabProg
import Derived.WalkKit
import Derived.WalkSpells
import Derived.WalkLawsBesides
import Derived.Deep.QuietTactic
import Derived.BigQuiet
import Derived.Deep.RegionHeld3
namespace Go.Proofs.Ytabnimgpednhjab
open Go.RowKit
set_option maxRecDepth 100000

theorem ret_int {k : IntKind} {a b : Int} (h : a = b) : Ending.returned (.int k a) = .returned (.int k b) := by rw [h]
theorem ret_bool {a b : Bool} (h : a = b) : Ending.returned (.bool a) = .returned (.bool b) := by rw [h]
theorem hide {p : Prop} (h : p) : Hid p := h

/-- From lo to hi. -/
def btw (n lo hi : Int) : Bool := decide (lo ≤ n) && decide (n ≤ hi)
theorem btw_true {n lo hi : Int} : btw n lo hi = true ↔ lo ≤ n ∧ n ≤ hi := by simp [btw]
theorem btw_false {n lo hi : Int} : btw n lo hi = false ↔ ¬ (lo ≤ n ∧ n ≤ hi) := by rw [← btw_true]; simp

theorem bal {w w1 : World} (h : Below w.heap.size w w1) (o : Obj) : Below w.heap.size w (w1.alloc o) := h.alloc h.size o
theorem bthen {w w1 w2 : World} (h : Below w.heap.size w w1) (k : Below w1.heap.size w1 w2) : Below w.heap.size w w2 := h.trans (k.mono h.size)
theorem past1 {w : World} {p : Addr} {v : Value} (h : w.cell? p = some v) (o : Obj) : (w.alloc o).cell? p = some v := cell_later (bal (Below.refl _ _) o) h

set_option maxHeartbeats 400000 in
theorem between_any (x lo hi : Int) (w : World) :
    Calls Try.prog 34 #[.int .i64 x, .int .i64 lo, .int .i64 hi] w fun e w' => e = .returned (.bool (btw x lo hi)) ∧ w' = w := by
  go_enter Try.func34, Try.ntmps34
  go_wp2
  all_goals
    go_ret
    exact ⟨ret_bool (by rw [Bool.eq_iff_iff, btw_true]; simp; try omega), rfl⟩

theorem literal_any (x : Int) (h : 0 ≤ x) (h2 : x ≤ 10000000) (w : World) :
    Calls Try.prog 57 #[.int .i64 x] w fun e w' => e = .returned (.int .i64 (2 * x)) ∧ w' = w := by
  go_enter Try.func57, Try.ntmps57
  go_wp2
  go_ret
  exact ⟨rfl, rfl⟩

theorem node_any (x : Int) (h : 0 ≤ x) (h2 : x ≤ 9223372036854775807) (w : World) :
    Calls Try.prog 62 #[.int .i64 x] w fun e w' => e = .returned (.int .i64 (x / 2)) ∧ w' = w := by
  go_enter Try.func62, Try.ntmps62
  go_wp2
  go_ret
  exact ⟨rfl, rfl⟩

def odd (x : Int) : Bool := x % 2 == 1

theorem isTurned_any (x : Int) (h : 0 ≤ x) (h2 : x ≤ 9223372036854775807) (w : World) :
    Calls Try.prog 63 #[.int .i64 x] w fun e w' => e = .returned (.bool (odd x)) ∧ w' = w := by
  have HE : Hid (odd x = (x % 2 == 1)) := rfl
  go_enter Try.func63, Try.ntmps63
  go_wp2
  go_ret
  exact ⟨ret_bool HE.out.symm, rfl⟩

/-- A literal, turned round. -/
def turn (x : Int) : Int := if odd x then x - 1 else x + 1

theorem toNat64 (a : Nat) (ha : a < 9223372036854775808) : (BitVec.ofInt 64 (a : Int)).toNat = a := by
  rw [BitVec.ofInt_natCast, BitVec.toNat_ofNat]; exact Nat.mod_eq_of_lt (by omega)

theorem xor_one (A : Nat) : A ^^^ 1 = if A % 2 = 1 then A - 1 else A + 1 := by
  have h : A ^^^ 1 = 2 * (A / 2) + (1 - A % 2) := by
    apply Nat.eq_of_testBit_eq
    intro i
    rw [Nat.testBit_xor]
    cases i with
    | zero =>
      simp only [Nat.testBit_zero]
      rcases Nat.mod_two_eq_zero_or_one A with h | h <;> simp [h] <;> omega
    | succ i =>
      rw [Nat.testBit_succ, Nat.testBit_succ, Nat.testBit_succ]
      have e1 : 1 / 2 = 0 := rfl
      have e2 : (2 * (A / 2) + (1 - A % 2)) / 2 = A / 2 := by omega
      rw [e1, e2]
      simp
  rw [h]
  split <;> omega

theorem turn_bits (x : Int) (h : 0 ≤ x) (h2 : x ≤ 10000000) : bits .xor .i64 x 1 = turn x := by
  obtain ⟨A, rfl⟩ := Int.eq_ofNat_of_zero_le h
  show IntKind.i64.wrap ((BitVec.ofInt 64 (A : Int) ^^^ BitVec.ofInt 64 ((1 : Nat) : Int)).toNat : Int) = _
  rw [BitVec.toNat_xor, toNat64 A (by omega), toNat64 1 (by omega), xor_one, IntKind.wrap_i64]
  unfold turn odd
  by_cases hA : A % 2 = 1
  · have e : ((A : Int) % 2 == 1) = true := by simp; omega
    rw [if_pos hA, e, if_pos rfl]; omega
  · have e : ((A : Int) % 2 == 1) = false := by simp; omega
    rw [if_neg hA, e, if_neg (by decide)]; omega

theorem turn_any (x : Int) (h : 0 ≤ x) (h2 : x ≤ 10000000) (w : World) :
    Calls Try.prog 60 #[.int .i64 x] w fun e w' => e = .returned (.int .i64 (turn x)) ∧ w' = w := by
  have HE := hide (turn_bits x h h2)
  go_enter Try.func60, Try.ntmps60
  go_wp2
  go_ret
  exact ⟨ret_int HE.out, rfl⟩

/-- A graph's value. -/
abbrev gval (ins : Int) (p : Option Addr) (len cap : Nat) : Value := .agg #[.int .i64 ins, .slice p len cap]

theorem nodes_any (ins : Int) (p : Option Addr) (len cap : Nat) (h0 : 0 ≤ ins) (h1 : ins ≤ 1000) (h2 : len ≤ 1000001) (w : World) :
    Calls Try.prog 58 #[gval ins p len cap] w fun e w' => e = .returned (.int .i64 (1 + ins + len)) ∧ Below w.heap.size w w' := by
  go_enter Try.func58, Try.ntmps58
  go_wp2
  go_ret
  exact ⟨rfl, bal (Below.refl _ _) _⟩

/-- May an And of these two literals be this node? -/
def standB (a b n : Int) : Bool := decide (1 < a) && decide (a < b) && (a / 2 != b / 2) && decide (b / 2 < n)

abbrev arr2 (a b : Int) : Value := .agg #[.int .i64 a, .int .i64 b]

theorem bdn {B : Nat} {a w : World} (h : Below B a w) (n : Nat) : Below B a (w.drewN n) := ⟨h.os, h.tape, h.output, h.size, h.block⟩

set_option maxHeartbeats 1000000 in
theorem stands_any (a b n : Int) (hb : b ≤ 9223372036854775807) (w : World) :
    Calls Try.prog 55 #[arr2 a b, .int .i64 n] w fun e w' => e = .returned (.bool (standB a b n)) ∧ Below w.heap.size w w' := by
  have HE : Hid (standB a b n = (decide (1 < a) && decide (a < b) && (a / 2 != b / 2) && decide (b / 2 < n))) := rfl
  generalize standB a b n = R at *
  have hbl : Below w.heap.size w (w.alloc (.cells #[.int .i64 a, .int .i64 b] 69)) := bal (Below.refl _ _) _
  by_cases h1 : 1 < a
  · by_cases h2 : a < b
    · by_cases h3 : a / 2 = b / 2
      · have HX : Hid (R = false) := by rw [HE.out, h3]; simp [Hid]
        have h3' : (a / 2 != b / 2) = false := by simp [h3]
        go_enter Try.func55, Try.ntmps55
        go_wp2
        go_quiet (fail)
        go_wp2_with (go_at_call 62; refine (node_any _ (by omega) (by omega) _).mono ?_; rintro e w' ⟨rfl, rfl⟩)
        go_ret
        exact ⟨ret_bool HX.out.symm, bdn hbl _⟩
      · have HX : Hid (R = (a / 2 != b / 2 && decide (b / 2 < n))) := by rw [HE.out]; simp [h1, h2, Hid]
        go_enter Try.func55, Try.ntmps55
        go_wp2
        go_quiet (fail)
        go_wp2_with (go_at_call 62; refine (node_any _ (by omega) (by omega) _).mono ?_; rintro e w' ⟨rfl, rfl⟩)
        go_ret
        exact ⟨ret_bool HX.out.symm, bdn hbl _⟩
    · have HX : Hid (R = false) := by rw [HE.out]; simp [h2, Hid]
      go_enter Try.func55, Try.ntmps55
      go_wp2
      go_quiet (fail)
      go_wp2
      go_ret
      exact ⟨ret_bool HX.out.symm, bdn hbl _⟩
  · have HX : Hid (R = false) := by rw [HE.out]; simp [h1, Hid]
    go_enter Try.func55, Try.ntmps55
    go_wp2
    go_quiet (fail)
    go_wp2
    go_ret
    exact ⟨ret_bool HX.out.symm, bdn hbl _⟩

/-- What lies at a list of numbers. -/
def IntsAt (w : World) (p : Option Addr) (l : List Int) : Prop :=
  0 < l.length → ∃ b off, p = some ⟨b, off, none⟩ ∧ ∀ (i : Nat) (h : i < l.length), w.cell? ⟨b, off + i, none⟩ = some (.int .i64 l[i])
theorem IntsAt.later {w w1 : World} {p : Option Addr} {l : List Int} (h : IntsAt w p l) (hb : Below w.heap.size w w1) : IntsAt w1 p l := by
  intro h0
  obtain ⟨b, off, hp, hc⟩ := h h0
  exact ⟨b, off, hp, fun i hi => cell_later hb (hc i hi)⟩

/-- What lies at a list of bools. -/
def BoolsAt (w : World) (p : Option Addr) (l : List Bool) : Prop :=
  0 < l.length → ∃ b off, p = some ⟨b, off, none⟩ ∧ ∀ (i : Nat) (h : i < l.length), w.cell? ⟨b, off + i, none⟩ = some (.bool l[i])
theorem BoolsAt.later {w w1 : World} {p : Option Addr} {l : List Bool} (h : BoolsAt w p l) (hb : Below w.heap.size w w1) : BoolsAt w1 p l := by
  intro h0
  obtain ⟨b, off, hp, hc⟩ := h h0
  exact ⟨b, off, hp, fun i hi => cell_later hb (hc i hi)⟩

/-- What lies at a list of pairs. -/
def PairsAt (w : World) (p : Option Addr) (l : List (Int × Int)) : Prop :=
  0 < l.length → ∃ b off, p = some ⟨b, off, none⟩ ∧ ∀ (i : Nat) (h : i < l.length), w.cell? ⟨b, off + i * 2, none⟩ = some (.int .i64 l[i].1) ∧ w.cell? ⟨b, off + i * 2 + 1, none⟩ = some (.int .i64 l[i].2)
theorem PairsAt.later {w w1 : World} {p : Option Addr} {l : List (Int × Int)} (h : PairsAt w p l) (hb : Below w.heap.size w w1) : PairsAt w1 p l := by
  intro h0
  obtain ⟨b, off, hp, hc⟩ := h h0
  exact ⟨b, off, hp, fun i hi => ⟨cell_later hb (hc i hi).1, cell_later hb (hc i hi).2⟩⟩

end Go.Proofs.Ytabnimgpednhjab

namespace Go.Proofs.Ytabnimgpednhjab
open Go.RowKit
set_option maxRecDepth 100000

/-- The place of the first of which f says yes; -1: there is none. -/
def findE (f : Int → Bool) (l : List Int) : Int := match l.findIdx? f with | some i => (i : Int) | none => -1

theorem findE_ge (f : Int → Bool) (l : List Int) : decide (0 ≤ findE f l) = l.any f := by
  unfold findE
  cases h : l.findIdx? f with
  | none =>
    rw [List.findIdx?_eq_none_iff] at h
    have : l.any f = false := by rw [List.any_eq_false]; intro x hx; simp [h x hx]
    rw [this]; rfl
  | some i =>
    have : l.any f = true := by
      rw [List.any_eq_true]
      rw [List.findIdx?_eq_some_iff_getElem] at h
      obtain ⟨h1, h2, _⟩ := h
      exact ⟨l[i], List.getElem_mem h1, h2⟩
    rw [this]
    simp

theorem findE_hit (f : Int → Bool) (l : List Int) (k : Nat) (hk : k < l.length) (h : ∀ i (hi : i < l.length), i < k → f l[i] = false) (hf : f l[k] = true) : findE f l = k := by
  have : l.findIdx? f = some k := by
    rw [List.findIdx?_eq_some_iff_getElem]
    exact ⟨hk, hf, fun j hj => by simp [h j (by omega) hj]⟩
  unfold findE
  rw [this]

theorem findE_miss (f : Int → Bool) (l : List Int) (h : ∀ i (hi : i < l.length), f l[i] = false) : findE f l = -1 := by
  have : l.findIdx? f = none := by
    rw [List.findIdx?_eq_none_iff]
    intro x hx
    obtain ⟨i, hi, rfl⟩ := List.getElem_of_mem hx
    exact h i hi
  unfold findE
  rw [this]

set_option maxRecDepth 100000 in
set_option maxHeartbeats 2000000 in
theorem indexFunc_any (fn : FuncId) (c : Value) (f : Int → Bool) (l : List Int) (p : Option Addr) (cap : Nat) (w : World) (hl : l.length ≤ maxLen) (hI : IntsAt w p l) (hent : ∀ (args : Array Value) (w : World), (callFunc fn args).run Try.prog w = .ok (.enter fn args) w)
    (hcl : ∀ wr, Below w.heap.size w wr → ∀ i (h : i < l.length), Calls Try.prog fn #[.int .i64 l[i], c] wr fun e w' => e = .returned (.bool (f l[i])) ∧ Below wr.heap.size wr w') :
    Calls Try.prog 70 #[.slice p l.length cap, .func (.func fn) #[] #[c]] w fun e w' => e = .returned (.int .i64 (findE f l)) ∧ Below w.heap.size w w' := by
  have HC : Hid _ := hcl
  unfold maxLen at hl
  clear hcl
  go_enter Try.func70, Try.ntmps70
  go_wp2
  go_loopw [8] (fun i wr => ∃ k : Nat, k ≤ l.length ∧ i = .int .i64 k ∧ Hid (∀ i (hi : i < l.length), i < k → f l[i] = false) ∧ Below w.heap.size w wr) (fun i _ => l.length - (intOf i).toNat)
  case atStart => exact ⟨0, Nat.zero_le _, rfl, fun i hi h => by omega, Below.refl _ _⟩
  case round =>
    obtain ⟨k, hk, rfl, hno, hbw⟩ := hrel
    by_cases hlt : k < l.length
    · obtain ⟨b, off, rfl, hc⟩ := (hI.later hbw) (by omega)
      have hck := hc k hlt
      have hcall := HC.out wr hbw k hlt
      have HH : Hid _ := findE_hit f l k hlt hno.out
      clear hc
      cases hf : f l[k]
      · have HN : Hid (∀ i (hi : i < l.length), i < k + 1 → f l[i] = false) := by
          intro i hi h
          rcases Nat.lt_succ_iff_lt_or_eq.1 h with h1 | rfl
          · exact hno.out i hi h1
          · exact hf
        rw [hf] at hcall
        have HCC : Hid (Unit → _) := fun _ => hcall
        clear hcall hf hno HH
        generalize l[k] = x at *
        go_wp2_with fail
        refine (HCC.out ()).mono ?_
        rintro e w' ⟨rfl, hb2⟩
        go_wp2
        go_roundw
        case rel => exact ⟨k + 1, by omega, by go_num, HN, bthen hbw hb2⟩
        case measure => simp [intOf]; omega
      · rw [hf] at hcall
        have HCC : Hid (Unit → _) := fun _ => hcall
        have HV : Hid (findE f l = k) := HH.out hf
        clear hcall hf hno HH
        generalize l[k] = x at *
        go_wp2_with fail
        refine (HCC.out ()).mono ?_
        rintro e w' ⟨rfl, hb2⟩
        go_wp2
        go_ret
        exact ⟨ret_int HV.out.symm, bthen hbw hb2⟩
    · have HV : Hid (findE f l = -1) := findE_miss f l (fun i hi => hno.out i hi (by omega))
      go_wp2
      go_ret
      exact ⟨ret_int HV.out.symm, hbw⟩

theorem containsFunc_any (fn : FuncId) (c : Value) (f : Int → Bool) (l : List Int) (p : Option Addr) (cap : Nat) (w : World) (hl : l.length ≤ maxLen) (hI : IntsAt w p l) (hent : ∀ (args : Array Value) (w : World), (callFunc fn args).run Try.prog w = .ok (.enter fn args) w)
    (hcl : ∀ wr, Below w.heap.size w wr → ∀ i (h : i < l.length), Calls Try.prog fn #[.int .i64 l[i], c] wr fun e w' => e = .returned (.bool (f l[i])) ∧ Below wr.heap.size wr w') :
    Calls Try.prog 49 #[.slice p l.length cap, .func (.func fn) #[] #[c]] w fun e w' => e = .returned (.bool (l.any f)) ∧ Below w.heap.size w w' := by
  have HC := fun _ : Unit => indexFunc_any fn c f l p cap w hl hI hent hcl
  have HG : Hid _ := findE_ge f l
  have HCC : Hid _ := HC
  clear HC hcl hent
  generalize findE f l = x at *
  go_enter Try.func49, Try.ntmps49
  go_wp2_with fail
  refine (HCC.out ()).mono ?_
  rintro e w' ⟨rfl, hb2⟩
  go_wp2
  go_ret
  exact ⟨ret_bool HG.out, hb2⟩

theorem enter30 (args : Array Value) (w : World) : (callFunc 59 args).run Try.prog w = .ok (.enter 59 args) w := by kernel_rfl

/-- Is a number no literal? -/
def noLit (e x : Int) : Bool := decide (x < 0) || decide (e ≤ x)

theorem has1_any (x e : Int) (B : Nat) (w : World) (hB : w.cell? ⟨B, 0, none⟩ = some (.int .i64 e)) :
    Calls Try.prog 59 #[.int .i64 x, .pointer (some ⟨B, 0, none⟩)] w fun r w' => r = .returned (.bool (noLit e x)) ∧ Below w.heap.size w w' := by
  have HE : Hid (noLit e x = (decide (x < 0) || decide (e ≤ x))) := rfl
  generalize noLit e x = R at *
  by_cases h : x < 0
  · have HX : Hid (R = true) := by rw [HE.out]; simp [h, Hid]
    go_enter Try.func59, Try.ntmps59
    go_wp2
    go_ret
    exact ⟨ret_bool HX.out.symm, Below.refl _ _⟩
  · have HX : Hid (R = decide (e ≤ x)) := by rw [HE.out]; simp [h, Hid]
    go_enter Try.func59, Try.ntmps59
    go_wp2
    go_ret
    exact ⟨ret_bool HX.out.symm, Below.refl _ _⟩

set_option maxHeartbeats 1000000 in
theorem has_any (ins : Int) (p : Option Addr) (len cap : Nat) (h0 : 0 ≤ ins) (h1 : ins ≤ 1000) (h2 : len ≤ 1000001) (l : List Int) (q : Option Addr) (qc : Nat) (hl : l.length ≤ maxLen) (w : World) (hI : IntsAt w q l) :
    Calls Try.prog 32 #[gval ins p len cap, .slice q l.length qc] w fun r w' => r = .returned (.bool (!l.any (noLit (2 * (1 + ins + len))))) ∧ Below w.heap.size w w' := by
  have hB0 : Below w.heap.size w (w.alloc (.cells #[.int .i64 ins, .slice p len cap] 24)) := bal (Below.refl _ _) _
  have HI := hide hI
  clear hI
  go_enter Try.func32, Try.ntmps32
  go_wp2_with (first | (go_at_call 57; refine (literal_any _ (by omega) (by omega) _).mono ?_; rintro e w' ⟨rfl, rfl⟩) | fail)
  refine (nodes_any _ _ _ _ h0 h1 h2 _).mono ?_
  rintro e w1 ⟨rfl, hb1⟩
  have HB1 := hide (bthen hB0 hb1)
  clear hb1 hB0
  go_wp2_with (first | (go_at_call 57; refine (literal_any _ (by omega) (by omega) _).mono ?_; rintro e w' ⟨rfl, rfl⟩) | fail)
  have hb2 : Below w'.heap.size w' (w'.alloc (.cells #[.int .i64 (2 * (1 + ins + ↑len))] 3)) := bal (Below.refl _ _) _
  refine (containsFunc_any 59 _ (noLit (2 * (1 + ins + ↑len))) l q qc _ hl ((HI.out.later HB1.out).later hb2) enter30 fun wr hb i hi => has1_any _ _ _ _ (cell_later hb (by simp [go_sem]))).mono ?_
  rintro e w2 ⟨rfl, hb3⟩
  have HB2 := hide (bthen (bthen HB1.out hb2) hb3)
  clear HB1 hb2 hb3
  go_wp2
  go_ret
  exact ⟨rfl, HB2.out⟩

end Go.Proofs.Ytabnimgpednhjab
