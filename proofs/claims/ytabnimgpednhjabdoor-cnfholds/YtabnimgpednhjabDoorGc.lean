/- Gates: the plain text's small calls. -/
import Derived.Test.YtabnimgpednhjabDoorGb
import Derived.WideKeyPair
import Derived.Maps.OwnOps
import Derived.Maps.OwnSet
namespace Go.Proofs.YtabnimgpednhjabDoor
open Go.RowKit Go.Maps Go.WideMaps
set_option maxRecDepth 100000
set_option maxRecDepth 100000

/-- A number of 64 bits. -/
def Wf (x : Int) : Prop := -9223372036854775808 ≤ x ∧ x ≤ 9223372036854775807
theorem Wf.lit {x : Int} (h : Wf x) : (Lit.int .i64 x).wf = true := WalkArith.wf_i64 h
theorem arr : ArrKey Tryd.prog 58 3 2 := ⟨Tryd.underlying58, by kernel_rfl, by kernel_rfl, by kernel_rfl⟩
theorem law55 : Keyed Tryd.prog 58 := Keyed.of_law arr.law
theorem sized : ∃ m, Tryd.prog.types.size = m + 1 := ⟨121, by kernel_rfl⟩
/-- What a pair reads as, as a key. -/
def keyL (a b : Int) : Lit := .string (keyBytes [.int .i64 a, .int .i64 b])
theorem key55 {a b : Int} (ha : Wf a) (hb : Wf b) : keyOf Tryd.prog 58 (arr2 a b) = some (keyL a b) := keyOf_pair arr Tryd.underlying3 sized ha.lit hb.lit
theorem keyL_inj {a b c d : Int} (ha : Wf a) (hb : Wf b) (hc : Wf c) (hd : Wf d) : keyL a b = keyL c d ↔ (a, b) = (c, d) := by
  constructor
  · intro h
    have h1 := key55 ha hb
    rw [h] at h1
    have := law55.inj h1 (key55 hc hd)
    simp at this
    simp [this]
  · intro h
    cases h
    rfl

def eqP (a b c d : Int) : Bool := decide ((a, b) = (c, d))
theorem run_equal55 {a b c d : Int} (ha : Wf a) (hb : Wf b) (hc : Wf c) (hd : Wf d) (w : World) : (Op.equal 58 (arr2 a b) (arr2 c d)).run Tryd.prog w = .ok (eqP a b c d) w := by
  obtain ⟨r, h1, h2⟩ := run_equal_deep w (m := 2) (by omega) (arr.at 0) arr.wide (key55 ha hb) (key55 hc hd)
  rw [h1]
  congr 1
  rw [Bool.eq_iff_iff, h2, keyL_inj ha hb hc hd]
  simp [eqP]
theorem run_eql55 {a b c d : Int} (ha : Wf a) (hb : Wf b) (hc : Wf c) (hd : Wf d) (w : World) : (binOp .eql 58 (arr2 a b) (arr2 c d)).run Tryd.prog w = .ok (.bool (eqP a b c d)) w := by
  simp only [binOp]
  simp [run_equal55 ha hb hc hd w]
theorem run_neq55 {a b c d : Int} (ha : Wf a) (hb : Wf b) (hc : Wf c) (hd : Wf d) (w : World) : (binOp .neq 58 (arr2 a b) (arr2 c d)).run Tryd.prog w = .ok (.bool (!eqP a b c d)) w := by
  simp only [binOp]
  simp [run_equal55 ha hb hc hd w]
def WfP (ps : List (Int × Int)) : Prop := ∀ (i : Nat) (h : i < ps.length), Wf ps[i].1 ∧ Wf ps[i].2

/-- The place of a pair among the first ones; -1: there is none. -/
def andAt (ps : List (Int × Int)) (k : Nat) (x : Int × Int) : Int := match (ps.take k).findIdx? (· == x) with | some i => (i : Int) | none => -1

theorem andAt_hit (ps : List (Int × Int)) (n k : Nat) (x : Int × Int) (hk : k < ps.length) (hn : k < n) (h : ∀ i (hi : i < ps.length), i < k → ps[i] ≠ x) (hx : ps[k] = x) : andAt ps n x = k := by
  have : (ps.take n).findIdx? (· == x) = some k := by
    rw [List.findIdx?_eq_some_iff_getElem]
    refine ⟨by rw [List.length_take]; omega, by simp [hx], fun j hj => ?_⟩
    simp only [List.getElem_take]
    simpa using h j (by omega) hj
  unfold andAt
  rw [this]

theorem andAt_miss (ps : List (Int × Int)) (n : Nat) (x : Int × Int) (h : ∀ i (hi : i < ps.length), i < n → ps[i] ≠ x) : andAt ps n x = -1 := by
  have : (ps.take n).findIdx? (· == x) = none := by
    rw [List.findIdx?_eq_none_iff]
    intro y hy
    obtain ⟨i, hi, rfl⟩ := List.getElem_of_mem hy
    simp only [List.getElem_take]
    rw [List.length_take] at hi
    simpa using h i (by omega) (by omega)
  unfold andAt
  rw [this]

def isLit (e x : Int) : Bool := !noLit e x

/-- What a literal is. -/
def litV (v : List Bool) (x : Int) : Bool := v.getD (x / 2).toNat false != odd x

theorem getD_bools {v : List Bool} {i : Nat} (h : i < v.length) : v.getD i false = v[i] := by simp [List.getD, List.getElem?_eq_getElem h]

end Go.Proofs.YtabnimgpednhjabDoor
