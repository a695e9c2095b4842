/- The numbers of nodes that a node names. -/
import Derived.Test.YtagaemlgompggaaGreatDoorMf
import Derived.Deep.RegionHeld3
namespace Go.Proofs.YtagaemlgompggaaGreatDoor.Ev
open Go.RowKit
set_option maxRecDepth 100000

def opsL (x : Nd) : List Int := [x.a, x.b, x.c].take (takes x.kind).toNat

theorem ints3 {w : World} {g : Nat} {x y z : Int} (t : Nat) (ht : t ≤ 3) (h0 : w.cell? ⟨g, 0, none⟩ = some (.int .i64 x)) (h1 : w.cell? ⟨g, 1, none⟩ = some (.int .i64 y)) (h2 : w.cell? ⟨g, 2, none⟩ = some (.int .i64 z)) :
    IntsAt w (some ⟨g, 0, none⟩) ([x, y, z].take t) := by
  intro _
  refine ⟨g, 0, rfl, fun i hi => ?_⟩
  have : i < 3 := by simp at hi; omega
  rw [List.getElem_take]
  match i, this with
  | 0, _ => simpa using h0
  | 1, _ => simpa using h1
  | 2, _ => simpa using h2

set_option maxRecDepth 100000 in
set_option maxHeartbeats 2000000 in
theorem operands_at (k v x y z n : Int) (t : Nat) (ht : takes k = t) (h4 : t = 0 ∨ t = 1 ∨ t = 2 ∨ t = 3) (w : World) :
    Calls Tryz.prog 105 #[.agg #[.int .i64 k, .int .i64 v, .int .i64 x, .int .i64 y, .int .i64 z, .int .i64 n]] w fun e w' =>
      ∃ g, e = .returned (.slice (some ⟨g, 0, none⟩) t 3) ∧ IntsAt w' (some ⟨g, 0, none⟩) ([x, y, z].take t) ∧ Below w.heap.size w w' := by
  have hw := words_any k
  rw [ht] at hw
  have Hw : Hid _ := hw
  clear hw ht
  rcases h4 with rfl | rfl | rfl | rfl
  all_goals
    go_enter Tryz.func105, Tryz.ntmps105
    go_wp2
    have z0 : (w.alloc (.cells #[.int .i64 k, .int .i64 v, .int .i64 x, .int .i64 y, .int .i64 z, .int .i64 n] 73)).cell? ⟨w.heap.size, 0, none⟩ = some (.int .i64 k) := by simp [go_sem]
    have z2 : (w.alloc (.cells #[.int .i64 k, .int .i64 v, .int .i64 x, .int .i64 y, .int .i64 z, .int .i64 n] 73)).cell? ⟨w.heap.size, 2, none⟩ = some (.int .i64 x) := by simp [go_sem]
    have z3 : (w.alloc (.cells #[.int .i64 k, .int .i64 v, .int .i64 x, .int .i64 y, .int .i64 z, .int .i64 n] 73)).cell? ⟨w.heap.size, 3, none⟩ = some (.int .i64 y) := by simp [go_sem]
    have z4 : (w.alloc (.cells #[.int .i64 k, .int .i64 v, .int .i64 x, .int .i64 y, .int .i64 z, .int .i64 n] 73)).cell? ⟨w.heap.size, 4, none⟩ = some (.int .i64 z) := by simp [go_sem]
    have hbx : Below w.heap.size w (w.alloc (.cells #[.int .i64 k, .int .i64 v, .int .i64 x, .int .i64 y, .int .i64 z, .int .i64 n] 73)) := bal (Below.refl _ _) _
    have hgt : w.heap.size < (w.alloc (.cells #[.int .i64 k, .int .i64 v, .int .i64 x, .int .i64 y, .int .i64 z, .int .i64 n] 73)).heap.size := by simp
    generalize w.alloc (.cells #[.int .i64 k, .int .i64 v, .int .i64 x, .int .i64 y, .int .i64 z, .int .i64 n] 73) = wb at *
    go_region_held3 (fun w' => w'.cell? ⟨w.heap.size, 0, none⟩ = some (.int .i64 k) ∧ w'.cell? ⟨w.heap.size, 2, none⟩ = some (.int .i64 x) ∧ w'.cell? ⟨w.heap.size, 3, none⟩ = some (.int .i64 y) ∧ w'.cell? ⟨w.heap.size, 4, none⟩ = some (.int .i64 z)) (go_keep) ((go_at_call 110; refine (Hw.out _).mono ?_; rintro e w' ⟨rfl, rfl⟩))
    all_goals
      go_wp2
      go_ret
      refine ⟨wb.heap.size, rfl, ints3 _ (by omega) (by simp [go_sem]) (by simp [go_sem]) (by simp [go_sem]), ?_⟩
      exact (bal hbx _).drew


theorem takes_nat (k : Int) : takes k = ((takes k).toNat : Int) ∧ ((takes k).toNat = 0 ∨ (takes k).toNat = 1 ∨ (takes k).toNat = 2 ∨ (takes k).toNat = 3) := by
  have := takes_four k
  omega

theorem opsL_len (x : Nd) : (opsL x).length = (takes x.kind).toNat := by
  unfold opsL
  have := takes_four x.kind
  simp
  omega

theorem operands_any (x : Nd) (w : World) :
    Calls Tryz.prog 105 #[.agg #[.int .i64 x.kind, .int .i64 x.width, .int .i64 x.a, .int .i64 x.b, .int .i64 x.c, .int .i64 x.n]] w fun e w' =>
      ∃ p cap, e = .returned (.slice p (opsL x).length cap) ∧ IntsAt w' p (opsL x) ∧ Below w.heap.size w w' := by
  obtain ⟨h1, h2⟩ := takes_nat x.kind
  refine (operands_at x.kind x.width x.a x.b x.c x.n (takes x.kind).toNat h1 h2 w).mono ?_
  rintro e w' ⟨g, rfl, hI, hb⟩
  exact ⟨some ⟨g, 0, none⟩, 3, by rw [opsL_len], hI, hb⟩

/-- Of each node: is it, or does it lean on, an input or a state? The first k. -/
def hgs (ns : List Nd) : Nat → List Bool
  | 0 => []
  | k + 1 => hgs ns k ++ [match ns[k]? with
    | some x => x.kind == 2 || x.kind == 3 || (opsL x).any (fun y => (hgs ns k).getD y.toNat false)
    | none => false]
theorem hgs_len (ns : List Nd) (k : Nat) : (hgs ns k).length = k := by
  induction k with
  | zero => rfl
  | succ k ih => simp [hgs, ih]
theorem hgs_at (ns : List Nd) (k : Nat) (h : k < ns.length) : hgs ns (k + 1) = hgs ns k ++ [ns[k].kind == 2 || ns[k].kind == 3 || (opsL ns[k]).any (fun y => (hgs ns k).getD y.toNat false)] := by
  show hgs ns k ++ _ = _
  rw [List.getElem?_eq_getElem h]

/-- A row of bools in memory. -/
def BRow (w : World) (g : Nat) (bs : List Bool) : Prop := ∀ (j : Nat) (h : j < bs.length), w.cell? ⟨g, j, none⟩ = some (.bool bs[j]) ∧ w.frozen? ⟨g, j, none⟩ = false

theorem enter79' (args : Array Value) (w : World) : (callFunc 112 args).run Tryz.prog w = .ok (.enter 112 args) w := by kernel_rfl

set_option maxHeartbeats 400000 in
theorem hangs1_any (x : Int) (B g len cap : Nat) (bs : List Bool) (w : World) (hl : bs.length = len) (_hl2 : len ≤ maxLen) (h0 : 0 ≤ x) (h1 : x < len) (hB : w.cell? ⟨B, 0, none⟩ = some (.slice (some ⟨g, 0, none⟩) len cap)) (hR : BRow w g bs) :
    Calls Tryz.prog 112 #[.int .i64 x, .pointer (some ⟨B, 0, none⟩)] w fun e w' => e = .returned (.bool (bs.getD x.toNat false)) ∧ w' = w := by
  have hc := (hR x.toNat (by omega)).1
  have HE : Hid (bs.getD x.toNat false = bs[x.toNat]) := by simp [List.getD, List.getElem?_eq_getElem (show x.toNat < bs.length from by omega), Hid]
  unfold maxLen at _hl2
  generalize bs[x.toNat] = y at *
  clear hR
  go_enter Tryz.func112, Tryz.ntmps112
  go_wp2
  go_ret
  exact ⟨ret_bool HE.out.symm, rfl⟩

end Go.Proofs.YtagaemlgompggaaGreatDoor.Ev
