/- The small calls of the plain text: Two, Bit, Signed, yes; and choose. -/
import Derived.Test.YtabnimgpednhjaaDoorXaM
import Derived.Deep.QuietTactic
import Derived.BigQuiet
import Derived.Test.YtabnimgpednhjaaDoorMb
namespace Go.Proofs.YtabnimgpednhjaaDoor.Ev
open Go.RowKit
set_option maxRecDepth 100000

theorem two_succ (j : Nat) : two ((j : Int) + 1) = 2 * two j := by
  unfold two
  rw [show ((j : Int) + 1).toNat = j + 1 from by omega, show ((j : Int)).toNat = j from by omega, Int.pow_succ]
  omega

theorem two_le (i j : Nat) (h : i ≤ j) : two i ≤ two j := by
  rw [two_nat, two_nat]
  have := Nat.pow_le_pow_right (n := 2) (by omega) h
  simp only [Int.toNat_natCast]
  omega

theorem two_60 : two ((60 : Nat) : Int) = 1152921504606846976 := by rfl

/-- Which of n things a raw number speaks of. -/
def pick (c n : Int) : Int := if c < 0 then (- (c + 1)) % n else c % n
theorem pick_bd (c n : Int) (hn : 0 < n) : 0 ≤ pick c n ∧ pick c n < n := by
  unfold pick
  split
  · exact ⟨Int.emod_nonneg _ (by omega), Int.emod_lt_of_pos _ hn⟩
  · exact ⟨Int.emod_nonneg _ (by omega), Int.emod_lt_of_pos _ hn⟩

end Go.Proofs.YtabnimgpednhjaaDoor.Ev

namespace Go.Proofs.YtabnimgpednhjaaDoor.Ev
open Go.RowKit
set_option maxRecDepth 100000

def nodeE (ns : List Nd) (i : Nat) (x : Nd) : Int :=
  if btw x.kind 1 23 = false then 7 else if btw x.width 1 8 = false then 3 else if 4 ≤ x.kind then opE ns i x else leafE x

theorem takes_op {k : Int} (h : 4 ≤ k) (h2 : k ≤ 23) : takes k = 1 ∨ takes k = 2 ∨ takes k = 3 := by
  unfold takes
  (repeat' split) <;> omega

theorem checkOp_any (p : Option Addr) (cap : Nat) (ns : List Nd) (hl : ns.length ≤ 80) (i : Nat) (hi : i < ns.length) (w : World) (hN : NodesAt w p ns) (h : 4 ≤ ns[i].kind) (h2 : ns[i].kind ≤ 23) :
    Calls Tryd.prog 36 #[.slice p ns.length cap, .int .i64 i] w fun e w' => e = .returned (.int .i64 (opE ns i ns[i])) ∧ Below w.heap.size w w' := by
  rcases takes_op h h2 with ht | ht | ht
  · exact checkOp_1 p cap ns hl i hi w hN ht
  · exact checkOp_2 p cap ns hl i hi w hN ht
  · exact checkOp_3 p cap ns hl i hi w hN ht

theorem NodesAt.later {w w1 : World} {p : Option Addr} {ns : List Nd} (h : NodesAt w p ns) (hb : Below w.heap.size w w1) : NodesAt w1 p ns := by
  intro h0
  obtain ⟨b, off, hp, hc⟩ := h h0
  refine ⟨b, off, hp, fun i hi => ?_⟩
  obtain ⟨c0, c1, c2, c3, c4, c5⟩ := hc i hi
  exact ⟨cell_later hb c0, cell_later hb c1, cell_later hb c2, cell_later hb c3, cell_later hb c4, cell_later hb c5⟩

set_option maxRecDepth 100000 in
set_option maxHeartbeats 1000000 in
theorem checkNode_any (p : Option Addr) (cap : Nat) (ns : List Nd) (hl : ns.length ≤ 80) (i : Nat) (hi : i < ns.length) (w : World) (hN : NodesAt w p ns) :
    Calls Tryd.prog 18 #[.slice p ns.length cap, .int .i64 i] w fun e w' => e = .returned (.int .i64 (nodeE ns i ns[i])) ∧ Below w.heap.size w w' := by
  have hN2 := hN
  obtain ⟨b, off, rfl, hc⟩ := hN (by omega)
  obtain ⟨c0, c1, c2, c3, c4, c5⟩ := hc i hi
  have hi2 : (i : Int) < (ns.length : Int) := by omega
  have HO : Hid (∀ w1, Below w.heap.size w w1 → 4 ≤ ns[i].kind → ns[i].kind ≤ 23 → Calls Tryd.prog 36 #[.slice (some ⟨b, off, none⟩) ns.length cap, .int .i64 i] w1 fun e w' => e = .returned (.int .i64 (opE ns i ns[i])) ∧ Below w1.heap.size w1 w') :=
    fun w1 hb h h2 => checkOp_any _ cap ns hl i hi w1 (hN2.later hb) h h2
  clear hN hN2 hc
  generalize ns[i] = nd at *
  obtain ⟨k, v, x, y, z, n⟩ := nd
  simp only at *
  by_cases hk : btw k 1 23 = true
  · by_cases hv : btw v 1 8 = true
    · have hk2 := btw_true.1 hk
      have hv2 := btw_true.1 hv
      by_cases h4 : 4 ≤ k
      · have ho : btw k 4 23 = true := btw_true.2 (by omega)
        have HE : Hid (nodeE ns i ⟨k, v, x, y, z, n⟩ = opE ns i ⟨k, v, x, y, z, n⟩) := by
          unfold nodeE; rw [if_neg (by simp [hk]), if_neg (by simp [hv]), if_pos h4]; rfl
        generalize nodeE ns i ⟨k, v, x, y, z, n⟩ = R at *
        generalize opE ns i ⟨k, v, x, y, z, n⟩ = R2 at *
        go_enter Tryd.func18, Tryd.ntmps18
        go_wp2_with (first | (go_at_call 33; refine (isKind_any _ _).mono ?_; rintro e w' ⟨rfl, rfl⟩) | (go_at_call 34; refine (isWidth_any _ _).mono ?_; rintro e w' ⟨rfl, rfl⟩) | (go_at_call 35; refine (isOp_any _ _).mono ?_; rintro e w' ⟨rfl, rfl⟩))
        refine (HO.out _ (bal (Below.refl _ _) _) h4 hk2.2).mono ?_
        rintro e w1 ⟨rfl, hb1⟩
        go_wp2
        go_ret
        exact ⟨ret_int HE.out.symm, bthen (bal (Below.refl _ _) _) hb1⟩
      · have ho : btw k 4 23 = false := btw_false.2 (by omega)
        have HE : Hid (nodeE ns i ⟨k, v, x, y, z, n⟩ = leafE ⟨k, v, x, y, z, n⟩) := by
          unfold nodeE; rw [if_neg (by simp [hk]), if_neg (by simp [hv]), if_neg h4]; rfl
        generalize nodeE ns i ⟨k, v, x, y, z, n⟩ = R at *
        go_enter Tryd.func18, Tryd.ntmps18
        go_wp2_with (first | (go_at_call 33; refine (isKind_any _ _).mono ?_; rintro e w' ⟨rfl, rfl⟩) | (go_at_call 34; refine (isWidth_any _ _).mono ?_; rintro e w' ⟨rfl, rfl⟩) | (go_at_call 35; refine (isOp_any _ _).mono ?_; rintro e w' ⟨rfl, rfl⟩))
        refine (leaf_any _ _ _ _ _ _ (by omega) _).mono ?_
        rintro e w1 ⟨rfl, hb1⟩
        go_wp2
        go_ret
        exact ⟨ret_int HE.out.symm, bthen (bal (Below.refl _ _) _) hb1⟩
    · have hv' : btw v 1 8 = false := by simpa using hv
      have HE : Hid (nodeE ns i ⟨k, v, x, y, z, n⟩ = 3) := by
        unfold nodeE; rw [if_neg (by simp [hk]), if_pos hv']; rfl
      clear hv
      go_enter Tryd.func18, Tryd.ntmps18
      go_wp2_with (first | (go_at_call 33; refine (isKind_any _ _).mono ?_; rintro e w' ⟨rfl, rfl⟩) | (go_at_call 34; refine (isWidth_any _ _).mono ?_; rintro e w' ⟨rfl, rfl⟩))
      go_ret
      exact ⟨ret_int HE.out.symm, bal (Below.refl _ _) _⟩
  · have hk' : btw k 1 23 = false := by simpa using hk
    have HE : Hid (nodeE ns i ⟨k, v, x, y, z, n⟩ = 7) := by
      unfold nodeE; rw [if_pos hk']; rfl
    clear hk
    go_enter Tryd.func18, Tryd.ntmps18
    go_wp2_with (go_at_call 33; refine (isKind_any _ _).mono ?_; rintro e w' ⟨rfl, rfl⟩)
    go_ret
    exact ⟨ret_int HE.out.symm, bal (Below.refl _ _) _⟩

end Go.Proofs.YtabnimgpednhjaaDoor.Ev

namespace Go.Proofs.YtabnimgpednhjaaDoor.Ev
open Go.RowKit
set_option maxRecDepth 100000

theorem info3 : (Tryd.prog.info? 3).map (fun i => (i.zero, i.size, i.bytes)) = some (some (.int .i64 0), 1, 8) := by kernel_rfl

theorem hide {p : Prop} (h : p) : Hid p := h

/-- A model as a value: five lists. -/
structure Mv where
  a0 : Option Addr
  c0 : Nat
  a1 : Option Addr
  l1 : Nat
  c1 : Nat
  a2 : Option Addr
  l2 : Nat
  c2 : Nat
  a3 : Option Addr
  l3 : Nat
  c3 : Nat
  a4 : Option Addr
  l4 : Nat
  c4 : Nat

abbrev Mv.cells (m : Mv) (l0 : Nat) : Array Value := #[.slice m.a0 l0 m.c0, .slice m.a1 m.l1 m.c1, .slice m.a2 m.l2 m.c2, .slice m.a3 m.l3 m.c3, .slice m.a4 m.l4 m.c4]
abbrev Mv.val (m : Mv) (l0 : Nat) : Value := .agg (m.cells l0)

/-- The numbers below k of which f says yes. -/
def sel (f : Nat → Bool) (k : Nat) : List Int := ((List.range k).filter f).map (fun i : Nat => (i : Int))
theorem sel_yes {f : Nat → Bool} {k : Nat} (h : f k = true) : sel f (k + 1) = sel f k ++ [(k : Int)] := by
  simp [sel, List.range_succ, List.filter_append, h]
theorem sel_no {f : Nat → Bool} {k : Nat} (h : f k = false) : sel f (k + 1) = sel f k := by
  simp [sel, List.range_succ, List.filter_append, h]
theorem sel_len (f : Nat → Bool) (k : Nat) : (sel f k).length ≤ k := by
  have := List.length_filter_le f (List.range k)
  simpa [sel] using this

/-- Is the node of a kind? -/
def isK (ns : List Nd) (kind : Int) (i : Nat) : Bool := match ns[i]? with | some x => x.kind == kind | none => false
theorem isK_at {ns : List Nd} {kind : Int} {i : Nat} (h : i < ns.length) : isK ns kind i = (ns[i].kind == kind) := by
  unfold isK; rw [List.getElem?_eq_getElem h]

theorem owns_later {w w' : World} {base : Nat} {v : Value} {l : List Int} {o : Obj} {x : Int} {u : Value} (hu : w.ownsRow base 3 1 u l.length (l.map (Value.int .i64)))
    (hown : w'.ownsRow base 3 1 v (l.length + 1) (l.map (Value.int .i64) ++ [.int .i64 x])) (hg : (w.alloc o).grownBy w' u.ownBlock) {w0 : World} (hb : Below base w0 w) (hB : base ≤ w.heap.size) :
    w'.ownsRow base 3 1 v (l ++ [x]).length ((l ++ [x]).map (Value.int .i64)) ∧ Below base w0 w' := by
  refine ⟨by simpa using hown, (hb.alloc hB o).grown hg (by simp; omega) (fun j hj => (hu.lt j hj).1)⟩

theorem owns_later2 {w w' : World} {base : Nat} {v : Value} {l : List Int} {o o2 : Obj} {x : Int} {u : Value} (hu : w.ownsRow base 3 1 u l.length (l.map (Value.int .i64)))
    (hown : w'.ownsRow base 3 1 v (l.length + 1) (l.map (Value.int .i64) ++ [.int .i64 x])) (hg : ((w.alloc o).alloc o2).grownBy w' u.ownBlock) {w0 : World} (hb : Below base w0 w) (hB : base ≤ w.heap.size) :
    w'.ownsRow base 3 1 v (l ++ [x]).length ((l ++ [x]).map (Value.int .i64)) ∧ Below base w0 w' := by
  refine ⟨by simpa using hown, ((hb.alloc hB o).alloc (by simp; omega) o2).grown hg (by simp; omega) (fun j hj => (hu.lt j hj).1)⟩

end Go.Proofs.YtabnimgpednhjaaDoor.Ev
