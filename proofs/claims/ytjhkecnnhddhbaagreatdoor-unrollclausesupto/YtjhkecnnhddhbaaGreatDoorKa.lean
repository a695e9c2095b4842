/- Steps, unrolled: what lies of an unroller in memory; the small calls. -/
import Derived.Test.YtjhkecnnhddhbaaGreatDoorCe
import Derived.Test.YtjhkecnnhddhbaaGreatDoorBa
namespace Go.Proofs.YtjhkecnnhddhbaaGreatDoor
open Go.RowKit Go.Maps Go.WideMaps
set_option maxRecDepth 100000
set_option autoImplicit false

/-- A circuit: its value's parts. -/
structure Ci where
  ins : Int
  p : Option Addr
  ps : List (Int × Int)
  cap : Nat
  a : Int
  s : Int
  i : Sl
  n : Sl
  b : Sl
  h : Sl
abbrev Ci.v (C : Ci) : Value := circ C.ins C.p C.ps.length C.cap C.a C.s C.i C.n C.b C.h
/-- How many variables a step takes. -/
def Ci.f (C : Ci) : Int := C.ins + C.ps.length
/-- A circuit and a number of steps in an unroller. -/
structure UnC (w : World) (M : Nat) (C : Ci) (last : Nat) : Prop where
  u2 : w.cell? ⟨M, 2, none⟩ = some (.int .i64 C.ins)
  u3 : w.cell? ⟨M, 3, none⟩ = some (.slice C.p C.ps.length C.cap)
  u4 : w.cell? ⟨M, 4, none⟩ = some (.int .i64 C.a)
  u5 : w.cell? ⟨M, 5, none⟩ = some (.int .i64 C.s)
  u6 : w.cell? ⟨M, 6, none⟩ = some C.i.v
  u7 : w.cell? ⟨M, 7, none⟩ = some C.n.v
  u8 : w.cell? ⟨M, 8, none⟩ = some C.b.v
  u9 : w.cell? ⟨M, 9, none⟩ = some C.h.v
  u10 : w.cell? ⟨M, 10, none⟩ = some (.int .i64 last)
theorem UnC.later {w w1 : World} {M : Nat} {C : Ci} {last : Nat} (h : UnC w M C last) (hb : Below w.heap.size w w1) : UnC w1 M C last :=
  ⟨cell_later hb h.u2, cell_later hb h.u3, cell_later hb h.u4, cell_later hb h.u5, cell_later hb h.u6, cell_later hb h.u7, cell_later hb h.u8, cell_later hb h.u9, cell_later hb h.u10⟩
theorem UnC.kp {w w1 : World} {v v1 : Value} {M : Nat} {C : Ci} {last : Nat} (h : UnC w M C last) (hv : v.ownBlock ≠ some M) (hk : Kp M w v w1 v1) : UnC w1 M C last :=
  have g : ∀ j x, 2 ≤ j → w.cell? ⟨M, j, none⟩ = some x → w1.cell? ⟨M, j, none⟩ = some x := fun j x hj hx => (hk.keep _ x hx (by intro e; cases e; omega) (by intro e; cases e; omega) hv).1
  ⟨g _ _ (by decide) h.u2, g _ _ (by decide) h.u3, g _ _ (by decide) h.u4, g _ _ (by decide) h.u5, g _ _ (by decide) h.u6, g _ _ (by decide) h.u7, g _ _ (by decide) h.u8, g _ _ (by decide) h.u9, g _ _ (by decide) h.u10⟩

/-- What a literal is at a step. -/
def atL (f : Int) (t : Nat) (x : Int) : Int := if x / 2 = 0 then x else x + 2 * (t * f)
/-- The literal of a state's bit at a step. -/
def stL (f a : Int) (t i : Nat) : Int := atL f t (2 * (1 + a + i))
/-- The clauses that a literal is what another one is. -/
def sameC (x y : Int) : List (List Int) := if y = 1 then rootC x else if y = 0 then rootC (turn x) else [[-numL x, numL y], [numL x, -numL y]]

set_option maxHeartbeats 1000000 in
theorem stride_any (ins : Int) (p : Option Addr) (len cap : Nat) (h0 : 0 ≤ ins) (h1 : ins ≤ 1000) (h2 : len ≤ 1000001) (a s v4 v5 v6 v7 : Value) (w : World) :
    Calls Tryz.prog 36 #[.agg #[.int .i64 ins, .slice p len cap, a, s, v4, v5, v6, v7]] w fun e w' => e = .returned (.int .i64 (ins + len)) ∧ Below w.heap.size w w' := by
  have hb : Below w.heap.size w (w.alloc (.cells #[.int .i64 ins, .slice p len cap, a, s, v4, v5, v6, v7] 27)) := bal (Below.refl _ _) _
  have HN := hide (nodes_any ins p len cap h0 h1 h2 (w.alloc (.cells #[.int .i64 ins, .slice p len cap, a, s, v4, v5, v6, v7] 27)))
  have HB := hide hb
  clear hb
  go_enter Tryz.func36, Tryz.ntmps36
  go_wp2_with fail
  refine HN.out.mono ?_
  rintro e w1 ⟨rfl, hb1⟩
  have HB1 := hide (bthen HB.out hb1)
  have ww := wrap_id (x := 1 + ins + len - 1) (by omega) (by omega)
  clear hb1 HN HB
  go_wp2
  go_ret
  exact ⟨ret_int (by omega), HB1.out⟩

set_option maxHeartbeats 2000000 in
theorem at_any (M : Nat) (C : Ci) (last t : Nat) (x : Int) (h0 : 0 ≤ C.ins) (h1 : C.ins ≤ 1000) (h2 : C.ps.length ≤ 1000001) (hx : 0 ≤ x) (hx2 : x ≤ 10000000) (ht0 : 0 ≤ (t : Int) * C.f) (ht : (t : Int) * C.f ≤ 200000) (w : World) (hU : UnC w M C last) :
    Calls Tryz.prog 38 #[.pointer (some ⟨M, 0, none⟩), .int .i64 t, .int .i64 x] w fun e w' => e = .returned (.int .i64 (atL C.f t x)) ∧ Below w.heap.size w w' := by
  have HE : Hid (atL C.f t x = if x / 2 = 0 then x else x + 2 * (t * C.f)) := rfl
  generalize atL C.f t x = R at *
  by_cases hz : x / 2 = 0
  · have HX : Hid (R = x) := by rw [HE.out, if_pos hz]; rfl
    have HN := hide (node_any x hx (by omega) w)
    rw [hz] at HN
    clear HE hU
    go_enter Tryz.func38, Tryz.ntmps38
    go_wp2_with fail
    refine HN.out.mono ?_
    rintro e w1 ⟨rfl, rfl⟩
    go_wp2
    go_ret
    exact ⟨ret_int HX.out.symm, Below.refl _ _⟩
  · have HX : Hid (R = x + 2 * (t * C.f)) := by rw [HE.out, if_neg hz]; rfl
    have HN := hide (node_any x hx (by omega) w)
    have hz' : (x / 2 == 0) = false := by simpa using hz
    obtain ⟨ins, p, ps, cap, a, s, i, n, b, h⟩ := C
    obtain ⟨u2, u3, u4, u5, u6, u7, u8, u9, _⟩ := hU
    simp only [Ci.f] at *
    have HS := hide (stride_any ins p ps.length cap h0 h1 h2 (.int .i64 a) (.int .i64 s) i.v n.v b.v h.v w)
    have ww := wrap_id (x := (t : Int) * (ins + (ps.length : Int))) (by omega) (by omega)
    have wx := wrap_id (x := x + 2 * ((t : Int) * (ins + (ps.length : Int)))) (by omega) (by omega)
    generalize hF : (t : Int) * (ins + (ps.length : Int)) = F at *
    have HL := hide (fun w => literal_any F ht0 (by omega) w)
    clear HE hz
    simp only [Sl.v] at *
    go_enter Tryz.func38, Tryz.ntmps38
    go_wp2_with fail
    refine HN.out.mono ?_
    rintro e w1 ⟨rfl, hw1⟩
    obtain rfl : w = w1 := hw1.symm
    clear hw1 HN
    go_wp2_with fail
    refine HS.out.mono ?_
    rintro e w2 ⟨rfl, hb2⟩
    have HB2 := hide hb2
    clear hb2 HS u2 u3 u4 u5 u6 u7 u8 u9
    go_wp2_with fail
    refine (HL.out _).mono ?_
    rintro e w3 ⟨rfl, hw3⟩
    obtain rfl : w2 = w3 := hw3.symm
    clear hw3
    go_wp2
    go_ret
    exact ⟨ret_int HX.out.symm, HB2.out⟩
end Go.Proofs.YtjhkecnnhddhbaaGreatDoor
