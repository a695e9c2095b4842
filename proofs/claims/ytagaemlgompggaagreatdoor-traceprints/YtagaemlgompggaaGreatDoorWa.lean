/- The small calls of package word, basics and latchworkref: what each returns; none of them changes what was there. -/
import Derived.Test.YtagaemlgompggaaGreatDoorProg
import Derived.WalkKit
import Derived.WalkSpells
import Derived.WalkLawsBesides
namespace Go.Proofs.YtagaemlgompggaaGreatDoor.Ev
open Go.RowKit
set_option maxRecDepth 100000

theorem ret_int {k : IntKind} {a b : Int} (h : a = b) : Ending.returned (.int k a) = .returned (.int k b) := by rw [h]
theorem ret_bool {a b : Bool} (h : a = b) : Ending.returned (.bool a) = .returned (.bool b) := by rw [h]

/-- From lo to hi. -/
def btw (n lo hi : Int) : Bool := decide (lo ≤ n) && decide (n ≤ hi)
theorem btw_true {n lo hi : Int} : btw n lo hi = true ↔ lo ≤ n ∧ n ≤ hi := by simp [btw]
theorem btw_false {n lo hi : Int} : btw n lo hi = false ↔ ¬ (lo ≤ n ∧ n ≤ hi) := by rw [← btw_true]; simp

set_option maxHeartbeats 400000 in
theorem isWidth_any (x : Int) (w : World) :
    Calls Tryz.prog 94 #[.int .i64 x] w fun e w' => e = .returned (.bool (btw x 1 8)) ∧ w' = w := by
  go_enter Tryz.func94, Tryz.ntmps94
  go_wp2
  all_goals
    go_ret
    exact ⟨ret_bool (by rw [Bool.eq_iff_iff, btw_true]; simp; try omega), rfl⟩

set_option maxHeartbeats 400000 in
theorem isOp_any (x : Int) (w : World) :
    Calls Tryz.prog 82 #[.int .i64 x] w fun e w' => e = .returned (.bool (btw x 4 23)) ∧ w' = w := by
  go_enter Tryz.func82, Tryz.ntmps82
  go_wp2
  all_goals
    go_ret
    exact ⟨ret_bool (by rw [Bool.eq_iff_iff, btw_true]; simp; try omega), rfl⟩

set_option maxHeartbeats 400000 in
theorem between_any (x lo hi : Int) (w : World) :
    Calls Tryz.prog 14 #[.int .i64 x, .int .i64 lo, .int .i64 hi] w fun e w' => e = .returned (.bool (btw x lo hi)) ∧ w' = w := by
  go_enter Tryz.func14, Tryz.ntmps14
  go_wp2
  all_goals
    go_ret
    exact ⟨ret_bool (by rw [Bool.eq_iff_iff, btw_true]; simp; try omega), rfl⟩

/-- How many words a kind takes. -/
def takes (k : Int) : Int :=
  if k = 4 ∨ k = 5 ∨ k = 21 ∨ k = 22 ∨ k = 23 then 1 else if k = 19 then 3 else if 6 ≤ k ∧ k ≤ 20 then 2 else 0

set_option maxHeartbeats 400000 in
theorem words_any (x : Int) (w : World) :
    Calls Tryz.prog 110 #[.int .i64 x] w fun e w' => e = .returned (.int .i64 (takes x)) ∧ w' = w := by
  go_enter Tryz.func110, Tryz.ntmps110
  go_wp2
  all_goals
    go_ret
    refine ⟨ret_int ?_, rfl⟩
    simp only [beq_iff_eq, beq_eq_false_iff_ne, ne_eq] at *
    unfold takes
    (repeat' split) <;> omega


/-- The shape of a kind, as a number. -/
def shape (k : Int) : Int :=
  if ¬ (4 ≤ k ∧ k ≤ 23) then 0 else if k ≤ 5 then 1 else if k ≤ 15 then 2 else if k ≤ 18 then 3 else if k = 19 then 4 else if k = 20 then 5 else if k = 21 then 6 else 7

set_option maxHeartbeats 400000 in
theorem shapeOf_any (x : Int) (w : World) :
    Calls Tryz.prog 114 #[.int .i64 x] w fun e w' => e = .returned (.int .i64 (shape x)) ∧ w' = w := by
  go_enter Tryz.func114, Tryz.ntmps114
  go_wp2
  all_goals
    go_ret
    refine ⟨ret_int ?_, rfl⟩
    try simp only [beq_iff_eq, beq_eq_false_iff_ne, ne_eq, Bool.not_eq_true', Bool.not_eq_false', decide_eq_true_eq, decide_eq_false_iff_not] at *
    unfold shape
    (repeat' split) <;> omega

theorem push_set {α : Type} (a : Array α) (x y : α) : (a.push x).setIfInBounds a.size y = a.push y := by
  apply Array.ext'
  simp

theorem checkKey_int {P : Program} {t : TypeId} {q : IntKind} (h : P.underlying t = some (.int q)) (b : Bool) (n : Nat) (v : Value) (w : World) : (Instr.checkKey b (n + 1) t v).run P w = .ok () w := by
  simp [Instr.checkKey, run_underlying h]

theorem run_ins (w : World) (es : Array MapEntry) (c : Nat) (k : Int) (v : Value)
    (h : Instr.findNow (.int .i64) (.int .i64 k) es.toList 0 = some none) :
    (Instr.mapUpdate 164 (.map (some w.heap.size)) (.int .i64 k) v).run Tryz.prog (w.alloc (.map es c)) = .ok () (w.alloc (.map (es.push ⟨.int .i64 k, v, c⟩) (c+1))) := by
  have hb : (w.alloc (.map es c)).heap[w.heap.size]? = some (.map es c) := (MapKept.heap_alloc w _).1
  have hk := checkKey_int Tryz.underlying152 false 9999 (.int .i64 k) (w.alloc (.map es c))
  unfold Instr.mapUpdate
  simp only [Sem.run_bind, run_underlying Tryz.underlying164, MapKept.run_getObj_map hb, Result.andThen, hk]
  simp [Instr.findKey, run_underlying Tryz.underlying152, h,  MapKept.run_setObj_map _ hb]
  show World.mk ((w.heap.push _).setIfInBounds w.heap.size _) _ _ _ _ = World.mk (w.heap.push _) _ _ _ _
  rw [push_set]
  rfl

/-- A demand, as a value. -/
abbrev dm (o a b c : Int) : Value := .agg #[.int .i64 o, .int .i64 a, .int .i64 b, .int .i64 c]
/-- An entry of the map of demands. -/
abbrev dmE (n : Nat) (k : Int) (v : Value) : MapEntry := ⟨.int .i64 k, v, n⟩
def dmMap : Array MapEntry := #[dmE 0 1 (dm 0 2 0 0), dmE 1 2 (dm 0 2 2 0), dmE 2 3 (dm 1 0 3 0), dmE 3 4 (dm 0 1 2 2), dmE 4 5 (dm 0 0 4 0), dmE 5 6 (dm 0 5 0 0), dmE 6 7 (dm 0 6 0 0)]

set_option maxRecDepth 100000 in
set_option maxHeartbeats 400000 in
theorem demands_any (w : World) :
    Calls Tryz.prog 119 #[] w fun e w' => e = .returned (.map (some w.heap.size)) ∧ w' = w.alloc (.map dmMap 7) := by
  have hmm := @run_makeMap Tryz.prog
  have i1 := fun v => run_ins w #[] 0 1 v (by simp [Instr.findNow])
  have i2 := fun v1 v => run_ins w #[⟨.int .i64 1, v1, 0⟩] 1 2 v (by simp [Instr.findNow, Instr.sameNow])
  have i3 := fun v1 v2 v => run_ins w #[⟨.int .i64 1, v1, 0⟩, ⟨.int .i64 2, v2, 1⟩] 2 3 v (by simp [Instr.findNow, Instr.sameNow])
  have i4 := fun v1 v2 v3 v => run_ins w #[⟨.int .i64 1, v1, 0⟩, ⟨.int .i64 2, v2, 1⟩, ⟨.int .i64 3, v3, 2⟩] 3 4 v (by simp [Instr.findNow, Instr.sameNow])
  have i5 := fun v1 v2 v3 v4 v => run_ins w #[⟨.int .i64 1, v1, 0⟩, ⟨.int .i64 2, v2, 1⟩, ⟨.int .i64 3, v3, 2⟩, ⟨.int .i64 4, v4, 3⟩] 4 5 v (by simp [Instr.findNow, Instr.sameNow])
  have i6 := fun v1 v2 v3 v4 v5 v => run_ins w #[⟨.int .i64 1, v1, 0⟩, ⟨.int .i64 2, v2, 1⟩, ⟨.int .i64 3, v3, 2⟩, ⟨.int .i64 4, v4, 3⟩, ⟨.int .i64 5, v5, 4⟩] 5 6 v (by simp [Instr.findNow, Instr.sameNow])
  have i7 := fun v1 v2 v3 v4 v5 v6 v => run_ins w #[⟨.int .i64 1, v1, 0⟩, ⟨.int .i64 2, v2, 1⟩, ⟨.int .i64 3, v3, 2⟩, ⟨.int .i64 4, v4, 3⟩, ⟨.int .i64 5, v5, 4⟩, ⟨.int .i64 6, v6, 5⟩] 6 7 v (by simp [Instr.findNow, Instr.sameNow])
  go_enter Tryz.func119, Tryz.ntmps119
  go_wp2
  go_ret
  exact ⟨rfl, rfl⟩


/-- What a demand of one width says of it (asked: the number; own: the operation's width; a: a's width). -/
def askOk (asked by_ own a n : Int) : Bool :=
  if asked = 1 then by_ == 1 else if asked = 2 then by_ == own else if asked = 3 then by_ == a else if asked = 4 then by_ == own - a
  else if asked = 5 then decide (0 ≤ n) && decide (n ≤ by_ - own) else if asked = 6 then decide (by_ ≤ own) else true

set_option maxHeartbeats 400000 in
theorem meets_any (asked by_ own n a : Int) (p q r : Nat) (w : World)
    (h1 : w.cell? ⟨p, 0, none⟩ = some (.int .i64 own)) (h2 : w.cell? ⟨q, 0, none⟩ = some (.int .i64 a)) (h3 : w.cell? ⟨r, 0, none⟩ = some (.int .i64 n))
    (b1 : 0 ≤ own ∧ own ≤ 8) (b2 : 0 ≤ a ∧ a ≤ 8) (b3 : 0 ≤ by_ ∧ by_ ≤ 8) :
    Calls Tryz.prog 124 #[.int .i64 asked, .int .i64 by_, .pointer (some ⟨p, 0, none⟩), .pointer (some ⟨q, 0, none⟩), .pointer (some ⟨r, 0, none⟩)] w fun e w' => e = .returned (.bool (askOk asked by_ own a n)) ∧ w' = w := by
  go_enter Tryz.func124, Tryz.ntmps124
  go_wp2
  all_goals
    go_ret
    refine ⟨ret_bool ?_, rfl⟩
    simp only [beq_iff_eq, beq_eq_false_iff_ne, ne_eq] at *
    unfold askOk
    clear h1 h2 h3
    simp [*]
    try omega

end Go.Proofs.YtagaemlgompggaaGreatDoor.Ev
