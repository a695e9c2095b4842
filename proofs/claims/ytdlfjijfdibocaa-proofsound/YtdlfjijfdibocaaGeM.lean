/- Gates: the plain text's small calls. -/
import Derived.Test.YtdlfjijfdibocaaGb
import Derived.WideKeyPair
import Derived.Maps.OwnOps
import Derived.Maps.OwnSet
namespace Go.Proofs.Ytdlfjijfdibocaa
open Go.RowKit Go.Maps Go.WideMaps
set_option maxRecDepth 100000

/-- A number of 64 bits. -/
def Wf (x : Int) : Prop := -9223372036854775808 ≤ x ∧ x ≤ 9223372036854775807
theorem Wf.lit {x : Int} (h : Wf x) : (Lit.int .i64 x).wf = true := WalkArith.wf_i64 h
theorem arr : ArrKey Try.prog 36 3 2 := ⟨Try.underlying36, by kernel_rfl, by kernel_rfl, by kernel_rfl⟩
theorem law55 : Keyed Try.prog 36 := Keyed.of_law arr.law
theorem sized : ∃ m, Try.prog.types.size = m + 1 := ⟨132, by kernel_rfl⟩
/-- What a pair reads as, as a key. -/
def keyL (a b : Int) : Lit := .string (keyBytes [.int .i64 a, .int .i64 b])
theorem key55 {a b : Int} (ha : Wf a) (hb : Wf b) : keyOf Try.prog 36 (arr2 a b) = some (keyL a b) := keyOf_pair arr Try.underlying3 sized ha.lit hb.lit
theorem keyL_inj {a b c d : Int} (ha : Wf a) (hb : Wf b) (hc : Wf c) (hd : Wf d) : keyL a b = keyL c d ↔ (a, b) = (c, d) := by
  constructor
  · intro h
    have h1 := key55 ha hb
    rw [h] at h1
    have := law55.inj h1 (key55 hc hd)
    simp at this
    simp [this]
  · intro h
    cases h
    rfl

def eqP (a b c d : Int) : Bool := decide ((a, b) = (c, d))
theorem run_equal55 {a b c d : Int} (ha : Wf a) (hb : Wf b) (hc : Wf c) (hd : Wf d) (w : World) : (Op.equal 36 (arr2 a b) (arr2 c d)).run Try.prog w = .ok (eqP a b c d) w := by
  obtain ⟨r, h1, h2⟩ := run_equal_deep w (m := 2) (by omega) (arr.at 0) arr.wide (key55 ha hb) (key55 hc hd)
  rw [h1]
  congr 1
  rw [Bool.eq_iff_iff, h2, keyL_inj ha hb hc hd]
  simp [eqP]
theorem run_eql55 {a b c d : Int} (ha : Wf a) (hb : Wf b) (hc : Wf c) (hd : Wf d) (w : World) : (binOp .eql 36 (arr2 a b) (arr2 c d)).run Try.prog w = .ok (.bool (eqP a b c d)) w := by
  simp only [binOp]
  simp [run_equal55 ha hb hc hd w]
theorem run_neq55 {a b c d : Int} (ha : Wf a) (hb : Wf b) (hc : Wf c) (hd : Wf d) (w : World) : (binOp .neq 36 (arr2 a b) (arr2 c d)).run Try.prog w = .ok (.bool (!eqP a b c d)) w := by
  simp only [binOp]
  simp [run_equal55 ha hb hc hd w]
def WfP (ps : List (Int × Int)) : Prop := ∀ (i : Nat) (h : i < ps.length), Wf ps[i].1 ∧ Wf ps[i].2

/-- The place of a pair among the first ones; -1: there is none. -/
def andAt (ps : List (Int × Int)) (k : Nat) (x : Int × Int) : Int := match (ps.take k).findIdx? (· == x) with | some i => (i : Int) | none => -1

theorem andAt_hit (ps : List (Int × Int)) (n k : Nat) (x : Int × Int) (hk : k < ps.length) (hn : k < n) (h : ∀ i (hi : i < ps.length), i < k → ps[i] ≠ x) (hx : ps[k] = x) : andAt ps n x = k := by
  have : (ps.take n).findIdx? (· == x) = some k := by
    rw [List.findIdx?_eq_some_iff_getElem]
    refine ⟨by rw [List.length_take]; omega, by simp [hx], fun j hj => ?_⟩
    simp only [List.getElem_take]
    simpa using h j (by omega) hj
  unfold andAt
  rw [this]

theorem andAt_miss (ps : List (Int × Int)) (n : Nat) (x : Int × Int) (h : ∀ i (hi : i < ps.length), i < n → ps[i] ≠ x) : andAt ps n x = -1 := by
  have : (ps.take n).findIdx? (· == x) = none := by
    rw [List.findIdx?_eq_none_iff]
    intro y hy
    obtain ⟨i, hi, rfl⟩ := List.getElem_of_mem hy
    simp only [List.getElem_take]
    rw [List.length_take] at hi
    simpa using h i (by omega) (by omega)
  unfold andAt
  rw [this]

def isLit (e x : Int) : Bool := !noLit e x

/-- What a literal is. -/
def litV (v : List Bool) (x : Int) : Bool := v.getD (x / 2).toNat false != odd x

theorem getD_bools {v : List Bool} {i : Nat} (h : i < v.length) : v.getD i false = v[i] := by simp [List.getD, List.getElem?_eq_getElem h]

end Go.Proofs.Ytdlfjijfdibocaa

namespace Go.Proofs.Ytdlfjijfdibocaa
open Go.RowKit Go.Maps Go.WideMaps
set_option maxRecDepth 100000

def sameG (i j : Int) (ps qs : List (Int × Int)) : Bool := decide (i = j) && decide (ps = qs)

/-- Do the first k stand? -/
def stN (ins : Int) (ps : List (Int × Int)) : Nat → Bool
  | 0 => true
  | k + 1 => stN ins ps k && (match ps[k]? with | some p => standB p.1 p.2 (1 + ins + k) | none => true)
theorem stN_succ {ins : Int} {ps : List (Int × Int)} {k : Nat} (h : k < ps.length) : stN ins ps (k + 1) = (stN ins ps k && standB ps[k].1 ps[k].2 (1 + ins + k)) := by
  simp [stN, List.getElem?_eq_getElem h]
theorem stN_down {ins : Int} {ps : List (Int × Int)} {k n : Nat} (h : stN ins ps n = true) (hk : k ≤ n) : stN ins ps k = true := by
  induction n with
  | zero => obtain rfl : k = 0 := by omega
            exact h
  | succ n ih =>
    by_cases e : k = n + 1
    · rw [e]; exact h
    · simp only [stN, Bool.and_eq_true] at h
      exact ih h.1 (by omega)

/-- Is a pair there twice, among the first k? -/
def dupN (ps : List (Int × Int)) : Nat → Bool
  | 0 => false
  | k + 1 => dupN ps k || (match ps[k]? with | some p => decide (0 ≤ andAt ps k p) | none => false)
theorem dupN_succ {ps : List (Int × Int)} {k : Nat} (h : k < ps.length) : dupN ps (k + 1) = (dupN ps k || decide (0 ≤ andAt ps k ps[k])) := by
  simp [dupN, List.getElem?_eq_getElem h]
theorem dupN_up {ps : List (Int × Int)} {k n : Nat} (h : dupN ps k = true) (hk : k ≤ n) : dupN ps n = true := by
  induction n with
  | zero => obtain rfl : k = 0 := by omega
            exact h
  | succ n ih =>
    by_cases e : k = n + 1
    · rw [← e]; exact h
    · simp only [dupN, Bool.or_eq_true]
      exact Or.inl (ih (by omega))

/-- What is said of a graph. -/
def chkE (ins : Int) (ps : List (Int × Int)) : Int :=
  if btw ins 0 1000 = false then 3 else if 1000000 < ps.length then 2 else if stN ins ps ps.length = false then 4 else if dupN ps ps.length = true then 6 else 0

theorem chk_range {ins : Int} {ps : List (Int × Int)} (h : btw ins 0 1000 = false) : chkE ins ps = 3 := by unfold chkE; rw [if_pos h]
theorem chk_many {ins : Int} {ps : List (Int × Int)} (h : btw ins 0 1000 = true) (h2 : 1000000 < ps.length) : chkE ins ps = 2 := by unfold chkE; rw [if_neg (by simp [h]), if_pos h2]
theorem chk_state {ins : Int} {ps : List (Int × Int)} (h : btw ins 0 1000 = true) (h2 : ps.length ≤ 1000000) (h3 : stN ins ps ps.length = false) : chkE ins ps = 4 := by unfold chkE; rw [if_neg (by simp [h]), if_neg (by omega), if_pos h3]
theorem chk_twice {ins : Int} {ps : List (Int × Int)} (h : btw ins 0 1000 = true) (h2 : ps.length ≤ 1000000) (h3 : stN ins ps ps.length = true) (h4 : dupN ps ps.length = true) : chkE ins ps = 6 := by
  unfold chkE; rw [if_neg (by simp [h]), if_neg (by omega), if_neg (by simp [h3]), if_pos h4]
theorem chk_ok {ins : Int} {ps : List (Int × Int)} (h : btw ins 0 1000 = true) (h2 : ps.length ≤ 1000000) (h3 : stN ins ps ps.length = true) (h4 : dupN ps ps.length = false) : chkE ins ps = 0 := by
  unfold chkE; rw [if_neg (by simp [h]), if_neg (by omega), if_neg (by simp [h3]), if_neg (by simp [h4])]
theorem chk_zero {ins : Int} {ps : List (Int × Int)} (h : chkE ins ps = 0) : 0 ≤ ins ∧ ins ≤ 1000 ∧ ps.length ≤ 1000000 ∧ stN ins ps ps.length = true ∧ dupN ps ps.length = false := by
  unfold chkE at h
  split at h
  · cases h
  split at h
  · cases h
  split at h
  · cases h
  split at h
  · cases h
  rename_i h1 h2 h3 h4
  have h1' := btw_true.1 (by simpa using h1)
  exact ⟨h1'.1, h1'.2, by omega, by simpa using h3, by simpa using h4⟩

end Go.Proofs.Ytdlfjijfdibocaa

namespace Go.Proofs.Ytdlfjijfdibocaa
open Go.RowKit Go.Maps Go.WideMaps
set_option maxRecDepth 100000

theorem andAt_ge (ps : List (Int × Int)) (k : Nat) (x : Int × Int) : -1 ≤ andAt ps k x ∧ andAt ps k x ≤ k := by
  unfold andAt
  cases h : (ps.take k).findIdx? (· == x) with
  | none => simp
  | some i =>
    rw [List.findIdx?_eq_some_iff_getElem] at h
    obtain ⟨h1, _⟩ := h
    rw [List.length_take] at h1
    simp
    omega

end Go.Proofs.Ytdlfjijfdibocaa
