/- Models: the numbers of nodes of a kind. -/
import Derived.Test.YtjhkecnnhddhbaaGreatDoorMc
namespace Go.Proofs.YtjhkecnnhddhbaaGreatDoor.Ev
open Go.RowKit
set_option maxRecDepth 100000
set_option maxRecDepth 100000

theorem info3 : (Tryz.prog.info? 3).map (fun i => (i.zero, i.size, i.bytes)) = some (some (.int .i64 0), 1, 8) := by kernel_rfl

theorem hide {p : Prop} (h : p) : Hid p := h

/-- A model as a value: five lists. -/
structure Mv where
  a0 : Option Addr
  c0 : Nat
  a1 : Option Addr
  l1 : Nat
  c1 : Nat
  a2 : Option Addr
  l2 : Nat
  c2 : Nat
  a3 : Option Addr
  l3 : Nat
  c3 : Nat
  a4 : Option Addr
  l4 : Nat
  c4 : Nat

abbrev Mv.cells (m : Mv) (l0 : Nat) : Array Value := #[.slice m.a0 l0 m.c0, .slice m.a1 m.l1 m.c1, .slice m.a2 m.l2 m.c2, .slice m.a3 m.l3 m.c3, .slice m.a4 m.l4 m.c4]
abbrev Mv.val (m : Mv) (l0 : Nat) : Value := .agg (m.cells l0)

/-- The numbers below k of which f says yes. -/
def sel (f : Nat → Bool) (k : Nat) : List Int := ((List.range k).filter f).map (fun i : Nat => (i : Int))
theorem sel_yes {f : Nat → Bool} {k : Nat} (h : f k = true) : sel f (k + 1) = sel f k ++ [(k : Int)] := by
  simp [sel, List.range_succ, List.filter_append, h]
theorem sel_no {f : Nat → Bool} {k : Nat} (h : f k = false) : sel f (k + 1) = sel f k := by
  simp [sel, List.range_succ, List.filter_append, h]
theorem sel_len (f : Nat → Bool) (k : Nat) : (sel f k).length ≤ k := by
  have := List.length_filter_le f (List.range k)
  simpa [sel] using this

/-- Is the node of a kind? -/
def isK (ns : List Nd) (kind : Int) (i : Nat) : Bool := match ns[i]? with | some x => x.kind == kind | none => false
theorem isK_at {ns : List Nd} {kind : Int} {i : Nat} (h : i < ns.length) : isK ns kind i = (ns[i].kind == kind) := by
  unfold isK; rw [List.getElem?_eq_getElem h]

theorem owns_later {w w' : World} {base : Nat} {v : Value} {l : List Int} {o : Obj} {x : Int} {u : Value} (hu : w.ownsRow base 3 1 u l.length (l.map (Value.int .i64)))
    (hown : w'.ownsRow base 3 1 v (l.length + 1) (l.map (Value.int .i64) ++ [.int .i64 x])) (hg : (w.alloc o).grownBy w' u.ownBlock) {w0 : World} (hb : Below base w0 w) (hB : base ≤ w.heap.size) :
    w'.ownsRow base 3 1 v (l ++ [x]).length ((l ++ [x]).map (Value.int .i64)) ∧ Below base w0 w' := by
  refine ⟨by simpa using hown, (hb.alloc hB o).grown hg (by simp; omega) (fun j hj => (hu.lt j hj).1)⟩

theorem owns_later2 {w w' : World} {base : Nat} {v : Value} {l : List Int} {o o2 : Obj} {x : Int} {u : Value} (hu : w.ownsRow base 3 1 u l.length (l.map (Value.int .i64)))
    (hown : w'.ownsRow base 3 1 v (l.length + 1) (l.map (Value.int .i64) ++ [.int .i64 x])) (hg : ((w.alloc o).alloc o2).grownBy w' u.ownBlock) {w0 : World} (hb : Below base w0 w) (hB : base ≤ w.heap.size) :
    w'.ownsRow base 3 1 v (l ++ [x]).length ((l ++ [x]).map (Value.int .i64)) ∧ Below base w0 w' := by
  refine ⟨by simpa using hown, ((hb.alloc hB o).alloc (by simp; omega) o2).grown hg (by simp; omega) (fun j hj => (hu.lt j hj).1)⟩

end Go.Proofs.YtjhkecnnhddhbaaGreatDoor.Ev
