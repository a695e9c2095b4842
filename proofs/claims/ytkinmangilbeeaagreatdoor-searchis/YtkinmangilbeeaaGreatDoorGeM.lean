/- Gates: the small calls. -/
import Derived.Test.YtkinmangilbeeaaGreatDoorProg
import Derived.WalkKit
import Derived.WalkSpells
import Derived.WalkLawsBesides
import Derived.Deep.QuietTactic
import Derived.BigQuiet
import Derived.Deep.RegionHeld3
import Derived.WideKeyPair
import Derived.Maps.OwnOps
import Derived.Maps.OwnSet
namespace Go.Proofs.YtkinmangilbeeaaGreatDoor
open Go.RowKit
set_option maxRecDepth 100000

theorem ret_int {k : IntKind} {a b : Int} (h : a = b) : Ending.returned (.int k a) = .returned (.int k b) := by rw [h]
theorem ret_bool {a b : Bool} (h : a = b) : Ending.returned (.bool a) = .returned (.bool b) := by rw [h]
theorem hide {p : Prop} (h : p) : Hid p := h

/-- From lo to hi. -/
def btw (n lo hi : Int) : Bool := decide (lo ≤ n) && decide (n ≤ hi)
theorem btw_true {n lo hi : Int} : btw n lo hi = true ↔ lo ≤ n ∧ n ≤ hi := by simp [btw]
theorem btw_false {n lo hi : Int} : btw n lo hi = false ↔ ¬ (lo ≤ n ∧ n ≤ hi) := by rw [← btw_true]; simp

theorem bal {w w1 : World} (h : Below w.heap.size w w1) (o : Obj) : Below w.heap.size w (w1.alloc o) := h.alloc h.size o
theorem bthen {w w1 w2 : World} (h : Below w.heap.size w w1) (k : Below w1.heap.size w1 w2) : Below w.heap.size w w2 := h.trans (k.mono h.size)
theorem past1 {w : World} {p : Addr} {v : Value} (h : w.cell? p = some v) (o : Obj) : (w.alloc o).cell? p = some v := cell_later (bal (Below.refl _ _) o) h

def odd (x : Int) : Bool := x % 2 == 1

/-- A literal, turned round. -/
def turn (x : Int) : Int := if odd x then x - 1 else x + 1

theorem toNat64 (a : Nat) (ha : a < 9223372036854775808) : (BitVec.ofInt 64 (a : Int)).toNat = a := by
  rw [BitVec.ofInt_natCast, BitVec.toNat_ofNat]; exact Nat.mod_eq_of_lt (by omega)

theorem xor_one (A : Nat) : A ^^^ 1 = if A % 2 = 1 then A - 1 else A + 1 := by
  have h : A ^^^ 1 = 2 * (A / 2) + (1 - A % 2) := by
    apply Nat.eq_of_testBit_eq
    intro i
    rw [Nat.testBit_xor]
    cases i with
    | zero =>
      simp only [Nat.testBit_zero]
      rcases Nat.mod_two_eq_zero_or_one A with h | h <;> simp [h] <;> omega
    | succ i =>
      rw [Nat.testBit_succ, Nat.testBit_succ, Nat.testBit_succ]
      have e1 : 1 / 2 = 0 := rfl
      have e2 : (2 * (A / 2) + (1 - A % 2)) / 2 = A / 2 := by omega
      rw [e1, e2]
      simp
  rw [h]
  split <;> omega

theorem turn_bits (x : Int) (h : 0 ≤ x) (h2 : x ≤ 10000000) : bits .xor .i64 x 1 = turn x := by
  obtain ⟨A, rfl⟩ := Int.eq_ofNat_of_zero_le h
  show IntKind.i64.wrap ((BitVec.ofInt 64 (A : Int) ^^^ BitVec.ofInt 64 ((1 : Nat) : Int)).toNat : Int) = _
  rw [BitVec.toNat_xor, toNat64 A (by omega), toNat64 1 (by omega), xor_one, IntKind.wrap_i64]
  unfold turn odd
  by_cases hA : A % 2 = 1
  · have e : ((A : Int) % 2 == 1) = true := by simp; omega
    rw [if_pos hA, e, if_pos rfl]; omega
  · have e : ((A : Int) % 2 == 1) = false := by simp; omega
    rw [if_neg hA, e, if_neg (by decide)]; omega

/-- A graph's value. -/
abbrev gval (ins : Int) (p : Option Addr) (len cap : Nat) : Value := .agg #[.int .i64 ins, .slice p len cap]

/-- May an And of these two literals be this node? -/
def standB (a b n : Int) : Bool := decide (1 < a) && decide (a < b) && (a / 2 != b / 2) && decide (b / 2 < n)

abbrev arr2 (a b : Int) : Value := .agg #[.int .i64 a, .int .i64 b]

theorem bdn {B : Nat} {a w : World} (h : Below B a w) (n : Nat) : Below B a (w.drewN n) := ⟨h.os, h.tape, h.output, h.size, h.block⟩

/-- What lies at a list of numbers. -/
def IntsAt (w : World) (p : Option Addr) (l : List Int) : Prop :=
  0 < l.length → ∃ b off, p = some ⟨b, off, none⟩ ∧ ∀ (i : Nat) (h : i < l.length), w.cell? ⟨b, off + i, none⟩ = some (.int .i64 l[i])
theorem IntsAt.later {w w1 : World} {p : Option Addr} {l : List Int} (h : IntsAt w p l) (hb : Below w.heap.size w w1) : IntsAt w1 p l := by
  intro h0
  obtain ⟨b, off, hp, hc⟩ := h h0
  exact ⟨b, off, hp, fun i hi => cell_later hb (hc i hi)⟩

/-- What lies at a list of bools. -/
def BoolsAt (w : World) (p : Option Addr) (l : List Bool) : Prop :=
  0 < l.length → ∃ b off, p = some ⟨b, off, none⟩ ∧ ∀ (i : Nat) (h : i < l.length), w.cell? ⟨b, off + i, none⟩ = some (.bool l[i])
theorem BoolsAt.later {w w1 : World} {p : Option Addr} {l : List Bool} (h : BoolsAt w p l) (hb : Below w.heap.size w w1) : BoolsAt w1 p l := by
  intro h0
  obtain ⟨b, off, hp, hc⟩ := h h0
  exact ⟨b, off, hp, fun i hi => cell_later hb (hc i hi)⟩

/-- What lies at a list of pairs. -/
def PairsAt (w : World) (p : Option Addr) (l : List (Int × Int)) : Prop :=
  0 < l.length → ∃ b off, p = some ⟨b, off, none⟩ ∧ ∀ (i : Nat) (h : i < l.length), w.cell? ⟨b, off + i * 2, none⟩ = some (.int .i64 l[i].1) ∧ w.cell? ⟨b, off + i * 2 + 1, none⟩ = some (.int .i64 l[i].2)
theorem PairsAt.later {w w1 : World} {p : Option Addr} {l : List (Int × Int)} (h : PairsAt w p l) (hb : Below w.heap.size w w1) : PairsAt w1 p l := by
  intro h0
  obtain ⟨b, off, hp, hc⟩ := h h0
  exact ⟨b, off, hp, fun i hi => ⟨cell_later hb (hc i hi).1, cell_later hb (hc i hi).2⟩⟩

end Go.Proofs.YtkinmangilbeeaaGreatDoor

namespace Go.Proofs.YtkinmangilbeeaaGreatDoor
open Go.RowKit
set_option maxRecDepth 100000

/-- The place of the first of which f says yes; -1: there is none. -/
def findE (f : Int → Bool) (l : List Int) : Int := match l.findIdx? f with | some i => (i : Int) | none => -1

theorem findE_ge (f : Int → Bool) (l : List Int) : decide (0 ≤ findE f l) = l.any f := by
  unfold findE
  cases h : l.findIdx? f with
  | none =>
    rw [List.findIdx?_eq_none_iff] at h
    have : l.any f = false := by rw [List.any_eq_false]; intro x hx; simp [h x hx]
    rw [this]; rfl
  | some i =>
    have : l.any f = true := by
      rw [List.any_eq_true]
      rw [List.findIdx?_eq_some_iff_getElem] at h
      obtain ⟨h1, h2, _⟩ := h
      exact ⟨l[i], List.getElem_mem h1, h2⟩
    rw [this]
    simp

theorem findE_hit (f : Int → Bool) (l : List Int) (k : Nat) (hk : k < l.length) (h : ∀ i (hi : i < l.length), i < k → f l[i] = false) (hf : f l[k] = true) : findE f l = k := by
  have : l.findIdx? f = some k := by
    rw [List.findIdx?_eq_some_iff_getElem]
    exact ⟨hk, hf, fun j hj => by simp [h j (by omega) hj]⟩
  unfold findE
  rw [this]

theorem findE_miss (f : Int → Bool) (l : List Int) (h : ∀ i (hi : i < l.length), f l[i] = false) : findE f l = -1 := by
  have : l.findIdx? f = none := by
    rw [List.findIdx?_eq_none_iff]
    intro x hx
    obtain ⟨i, hi, rfl⟩ := List.getElem_of_mem hx
    exact h i hi
  unfold findE
  rw [this]

set_option maxRecDepth 100000 in
set_option maxHeartbeats 2000000 in
theorem indexFunc_any (fn : FuncId) (c : Value) (f : Int → Bool) (l : List Int) (p : Option Addr) (cap : Nat) (w : World) (hl : l.length ≤ maxLen) (hI : IntsAt w p l) (hent : ∀ (args : Array Value) (w : World), (callFunc fn args).run Tryz.prog w = .ok (.enter fn args) w)
    (hcl : ∀ wr, Below w.heap.size w wr → ∀ i (h : i < l.length), Calls Tryz.prog fn #[.int .i64 l[i], c] wr fun e w' => e = .returned (.bool (f l[i])) ∧ Below wr.heap.size wr w') :
    Calls Tryz.prog 31 #[.slice p l.length cap, .func (.func fn) #[] #[c]] w fun e w' => e = .returned (.int .i64 (findE f l)) ∧ Below w.heap.size w w' := by
  have HC : Hid _ := hcl
  unfold maxLen at hl
  clear hcl
  go_enter Tryz.func31, Tryz.ntmps31
  go_wp2
  go_loopw [8] (fun i wr => ∃ k : Nat, k ≤ l.length ∧ i = .int .i64 k ∧ Hid (∀ i (hi : i < l.length), i < k → f l[i] = false) ∧ Below w.heap.size w wr) (fun i _ => l.length - (intOf i).toNat)
  case atStart => exact ⟨0, Nat.zero_le _, rfl, fun i hi h => by omega, Below.refl _ _⟩
  case round =>
    obtain ⟨k, hk, rfl, hno, hbw⟩ := hrel
    by_cases hlt : k < l.length
    · obtain ⟨b, off, rfl, hc⟩ := (hI.later hbw) (by omega)
      have hck := hc k hlt
      have hcall := HC.out wr hbw k hlt
      have HH : Hid _ := findE_hit f l k hlt hno.out
      clear hc
      cases hf : f l[k]
      · have HN : Hid (∀ i (hi : i < l.length), i < k + 1 → f l[i] = false) := by
          intro i hi h
          rcases Nat.lt_succ_iff_lt_or_eq.1 h with h1 | rfl
          · exact hno.out i hi h1
          · exact hf
        rw [hf] at hcall
        have HCC : Hid (Unit → _) := fun _ => hcall
        clear hcall hf hno HH
        generalize l[k] = x at *
        go_wp2_with fail
        refine (HCC.out ()).mono ?_
        rintro e w' ⟨rfl, hb2⟩
        go_wp2
        go_roundw
        case rel => exact ⟨k + 1, by omega, by go_num, HN, bthen hbw hb2⟩
        case measure => simp [intOf]; omega
      · rw [hf] at hcall
        have HCC : Hid (Unit → _) := fun _ => hcall
        have HV : Hid (findE f l = k) := HH.out hf
        clear hcall hf hno HH
        generalize l[k] = x at *
        go_wp2_with fail
        refine (HCC.out ()).mono ?_
        rintro e w' ⟨rfl, hb2⟩
        go_wp2
        go_ret
        exact ⟨ret_int HV.out.symm, bthen hbw hb2⟩
    · have HV : Hid (findE f l = -1) := findE_miss f l (fun i hi => hno.out i hi (by omega))
      go_wp2
      go_ret
      exact ⟨ret_int HV.out.symm, hbw⟩

theorem containsFunc_any (fn : FuncId) (c : Value) (f : Int → Bool) (l : List Int) (p : Option Addr) (cap : Nat) (w : World) (hl : l.length ≤ maxLen) (hI : IntsAt w p l) (hent : ∀ (args : Array Value) (w : World), (callFunc fn args).run Tryz.prog w = .ok (.enter fn args) w)
    (hcl : ∀ wr, Below w.heap.size w wr → ∀ i (h : i < l.length), Calls Tryz.prog fn #[.int .i64 l[i], c] wr fun e w' => e = .returned (.bool (f l[i])) ∧ Below wr.heap.size wr w') :
    Calls Tryz.prog 18 #[.slice p l.length cap, .func (.func fn) #[] #[c]] w fun e w' => e = .returned (.bool (l.any f)) ∧ Below w.heap.size w w' := by
  have HC := fun _ : Unit => indexFunc_any fn c f l p cap w hl hI hent hcl
  have HG : Hid _ := findE_ge f l
  have HCC : Hid _ := HC
  clear HC hcl hent
  generalize findE f l = x at *
  go_enter Tryz.func18, Tryz.ntmps18
  go_wp2_with fail
  refine (HCC.out ()).mono ?_
  rintro e w' ⟨rfl, hb2⟩
  go_wp2
  go_ret
  exact ⟨ret_bool HG.out, hb2⟩

/-- Is a number no literal? -/
def noLit (e x : Int) : Bool := decide (x < 0) || decide (e ≤ x)

end Go.Proofs.YtkinmangilbeeaaGreatDoor

namespace Go.Proofs.YtkinmangilbeeaaGreatDoor
open Go.RowKit Go.Maps Go.WideMaps
set_option maxRecDepth 100000

/-- A number of 64 bits. -/
def Wf (x : Int) : Prop := -9223372036854775808 ≤ x ∧ x ≤ 9223372036854775807
theorem Wf.lit {x : Int} (h : Wf x) : (Lit.int .i64 x).wf = true := WalkArith.wf_i64 h
/-- What a pair reads as, as a key. -/
def keyL (a b : Int) : Lit := .string (keyBytes [.int .i64 a, .int .i64 b])
def eqP (a b c d : Int) : Bool := decide ((a, b) = (c, d))
def WfP (ps : List (Int × Int)) : Prop := ∀ (i : Nat) (h : i < ps.length), Wf ps[i].1 ∧ Wf ps[i].2

/-- The place of a pair among the first ones; -1: there is none. -/
def andAt (ps : List (Int × Int)) (k : Nat) (x : Int × Int) : Int := match (ps.take k).findIdx? (· == x) with | some i => (i : Int) | none => -1

theorem andAt_hit (ps : List (Int × Int)) (n k : Nat) (x : Int × Int) (hk : k < ps.length) (hn : k < n) (h : ∀ i (hi : i < ps.length), i < k → ps[i] ≠ x) (hx : ps[k] = x) : andAt ps n x = k := by
  have : (ps.take n).findIdx? (· == x) = some k := by
    rw [List.findIdx?_eq_some_iff_getElem]
    refine ⟨by rw [List.length_take]; omega, by simp [hx], fun j hj => ?_⟩
    simp only [List.getElem_take]
    simpa using h j (by omega) hj
  unfold andAt
  rw [this]

theorem andAt_miss (ps : List (Int × Int)) (n : Nat) (x : Int × Int) (h : ∀ i (hi : i < ps.length), i < n → ps[i] ≠ x) : andAt ps n x = -1 := by
  have : (ps.take n).findIdx? (· == x) = none := by
    rw [List.findIdx?_eq_none_iff]
    intro y hy
    obtain ⟨i, hi, rfl⟩ := List.getElem_of_mem hy
    simp only [List.getElem_take]
    rw [List.length_take] at hi
    simpa using h i (by omega) (by omega)
  unfold andAt
  rw [this]

def isLit (e x : Int) : Bool := !noLit e x

/-- What a literal is. -/
def litV (v : List Bool) (x : Int) : Bool := v.getD (x / 2).toNat false != odd x

theorem getD_bools {v : List Bool} {i : Nat} (h : i < v.length) : v.getD i false = v[i] := by simp [List.getD, List.getElem?_eq_getElem h]

end Go.Proofs.YtkinmangilbeeaaGreatDoor

namespace Go.Proofs.YtkinmangilbeeaaGreatDoor
open Go.RowKit Go.Maps Go.WideMaps
set_option maxRecDepth 100000

def sameG (i j : Int) (ps qs : List (Int × Int)) : Bool := decide (i = j) && decide (ps = qs)

/-- Do the first k stand? -/
def stN (ins : Int) (ps : List (Int × Int)) : Nat → Bool
  | 0 => true
  | k + 1 => stN ins ps k && (match ps[k]? with | some p => standB p.1 p.2 (1 + ins + k) | none => true)
theorem stN_succ {ins : Int} {ps : List (Int × Int)} {k : Nat} (h : k < ps.length) : stN ins ps (k + 1) = (stN ins ps k && standB ps[k].1 ps[k].2 (1 + ins + k)) := by
  simp [stN, List.getElem?_eq_getElem h]
theorem stN_down {ins : Int} {ps : List (Int × Int)} {k n : Nat} (h : stN ins ps n = true) (hk : k ≤ n) : stN ins ps k = true := by
  induction n with
  | zero => obtain rfl : k = 0 := by omega
            exact h
  | succ n ih =>
    by_cases e : k = n + 1
    · rw [e]; exact h
    · simp only [stN, Bool.and_eq_true] at h
      exact ih h.1 (by omega)

/-- Is a pair there twice, among the first k? -/
def dupN (ps : List (Int × Int)) : Nat → Bool
  | 0 => false
  | k + 1 => dupN ps k || (match ps[k]? with | some p => decide (0 ≤ andAt ps k p) | none => false)
theorem dupN_succ {ps : List (Int × Int)} {k : Nat} (h : k < ps.length) : dupN ps (k + 1) = (dupN ps k || decide (0 ≤ andAt ps k ps[k])) := by
  simp [dupN, List.getElem?_eq_getElem h]
theorem dupN_up {ps : List (Int × Int)} {k n : Nat} (h : dupN ps k = true) (hk : k ≤ n) : dupN ps n = true := by
  induction n with
  | zero => obtain rfl : k = 0 := by omega
            exact h
  | succ n ih =>
    by_cases e : k = n + 1
    · rw [← e]; exact h
    · simp only [dupN, Bool.or_eq_true]
      exact Or.inl (ih (by omega))

/-- What is said of a graph. -/
def chkE (ins : Int) (ps : List (Int × Int)) : Int :=
  if btw ins 0 1000 = false then 3 else if 1000000 < ps.length then 2 else if stN ins ps ps.length = false then 4 else if dupN ps ps.length = true then 6 else 0

theorem chk_range {ins : Int} {ps : List (Int × Int)} (h : btw ins 0 1000 = false) : chkE ins ps = 3 := by unfold chkE; rw [if_pos h]
theorem chk_many {ins : Int} {ps : List (Int × Int)} (h : btw ins 0 1000 = true) (h2 : 1000000 < ps.length) : chkE ins ps = 2 := by unfold chkE; rw [if_neg (by simp [h]), if_pos h2]
theorem chk_state {ins : Int} {ps : List (Int × Int)} (h : btw ins 0 1000 = true) (h2 : ps.length ≤ 1000000) (h3 : stN ins ps ps.length = false) : chkE ins ps = 4 := by unfold chkE; rw [if_neg (by simp [h]), if_neg (by omega), if_pos h3]
theorem chk_twice {ins : Int} {ps : List (Int × Int)} (h : btw ins 0 1000 = true) (h2 : ps.length ≤ 1000000) (h3 : stN ins ps ps.length = true) (h4 : dupN ps ps.length = true) : chkE ins ps = 6 := by
  unfold chkE; rw [if_neg (by simp [h]), if_neg (by omega), if_neg (by simp [h3]), if_pos h4]
theorem chk_ok {ins : Int} {ps : List (Int × Int)} (h : btw ins 0 1000 = true) (h2 : ps.length ≤ 1000000) (h3 : stN ins ps ps.length = true) (h4 : dupN ps ps.length = false) : chkE ins ps = 0 := by
  unfold chkE; rw [if_neg (by simp [h]), if_neg (by omega), if_neg (by simp [h3]), if_neg (by simp [h4])]
theorem chk_zero {ins : Int} {ps : List (Int × Int)} (h : chkE ins ps = 0) : 0 ≤ ins ∧ ins ≤ 1000 ∧ ps.length ≤ 1000000 ∧ stN ins ps ps.length = true ∧ dupN ps ps.length = false := by
  unfold chkE at h
  split at h
  · cases h
  split at h
  · cases h
  split at h
  · cases h
  split at h
  · cases h
  rename_i h1 h2 h3 h4
  have h1' := btw_true.1 (by simpa using h1)
  exact ⟨h1'.1, h1'.2, by omega, by simpa using h3, by simpa using h4⟩

end Go.Proofs.YtkinmangilbeeaaGreatDoor

namespace Go.Proofs.YtkinmangilbeeaaGreatDoor
open Go.RowKit Go.Maps Go.WideMaps
set_option maxRecDepth 100000

theorem andAt_ge (ps : List (Int × Int)) (k : Nat) (x : Int × Int) : -1 ≤ andAt ps k x ∧ andAt ps k x ≤ k := by
  unfold andAt
  cases h : (ps.take k).findIdx? (· == x) with
  | none => simp
  | some i =>
    rw [List.findIdx?_eq_some_iff_getElem] at h
    obtain ⟨h1, _⟩ := h
    rw [List.length_take] at h1
    simp
    omega

end Go.Proofs.YtkinmangilbeeaaGreatDoor
