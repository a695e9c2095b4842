/- A circuit is checked, by the code and by the plain text: the law's walk. -/
import Derived.Test.YtabnimgpednhjabGreatBb
import Derived.Deep.RegionHeld3
import Derived.Test.YtabnimgpednhjabGreatProg
import Derived.WalkKit
import Derived.WalkSpells
import Derived.WalkLawsBesides
namespace Go.Proofs.YtabnimgpednhjabGreat.Gg
open Go.RowKit Go.Maps Go.WideMaps
set_option maxRecDepth 100000

set_option maxHeartbeats 8000000 in
theorem blastChecks_walk (hbg : ∀ w, Calls Tryz.prog 5 #[] w fun e w' => e = .returned (.bool true) ∧ Below w.heap.size w w')
    (ins : Int) (p : Option Addr) (cap : Nat) (ps : List (Int × Int)) (hwf : WfP ps) (hl : ps.length ≤ 8796093022208) (a s : Int) (ha : Wf a) (hs : Wf s) (i n b h : Sl) (hli : i.ns.length ≤ maxLen) (hln : n.ns.length ≤ maxLen) (hlb : b.ns.length ≤ maxLen) (hlh : h.ns.length ≤ maxLen) (w : World) (hC : CirAt w p ps i n b h) :
    Calls Tryz.prog 3 #[circ ins p ps.length cap a s i n b h] w fun e w' => e = .returned (.bool true) ∧ Below w.heap.size w w' := by
  have hB0 : Below w.heap.size w (w.alloc (.cells (circC ins p ps.length cap a s i n b h) 27)) := bal (Below.refl _ _) _
  have HK := hide (fun (w' : World) (hb : Below w.heap.size w w') => checkB_any ins p cap ps hwf hl a s ha hs i n b h hli hln hlb hlh w' (hC.later hb))
  have HP := hide (fun (w' : World) (hb : Below w.heap.size w w') => plainB_any ins p cap ps hwf hl a s ha hs i n b h hli hln hlb hlh w' (hC.later hb))
  have HG := hide hbg
  clear hC hwf hbg ha hs hli hln hlb hlh hl
  generalize cirE ins ps a s i.ns n.ns b.ns h.ns = R at *
  have hB1 : Below w.heap.size w (w.alloc (.cells (circC ins p ps.length cap a s i n b h) 27)).drew := hB0.drew
  unfold circC at hB0 hB1
  unfold circ at HK HP ⊢
  generalize i.v = vi at *
  generalize n.v = vn at *
  generalize b.v = vb at *
  generalize h.v = vh at *
  go_enter Tryz.func3, Tryz.ntmps3
  go_wp2
  have k0 : (w.alloc (.cells #[.int .i64 ins, .slice p ps.length cap, .int .i64 a, .int .i64 s, vi, vn, vb, vh] 27)).drew.cell? ⟨w.heap.size, 0, none⟩ = some (.int .i64 ins) := by simp [go_sem]
  have k1 : (w.alloc (.cells #[.int .i64 ins, .slice p ps.length cap, .int .i64 a, .int .i64 s, vi, vn, vb, vh] 27)).drew.cell? ⟨w.heap.size, 1, none⟩ = some (.slice p ps.length cap) := by simp [go_sem]
  have k2 : (w.alloc (.cells #[.int .i64 ins, .slice p ps.length cap, .int .i64 a, .int .i64 s, vi, vn, vb, vh] 27)).drew.cell? ⟨w.heap.size, 2, none⟩ = some (.int .i64 a) := by simp [go_sem]
  have k3 : (w.alloc (.cells #[.int .i64 ins, .slice p ps.length cap, .int .i64 a, .int .i64 s, vi, vn, vb, vh] 27)).drew.cell? ⟨w.heap.size, 3, none⟩ = some (.int .i64 s) := by simp [go_sem]
  have k4 : (w.alloc (.cells #[.int .i64 ins, .slice p ps.length cap, .int .i64 a, .int .i64 s, vi, vn, vb, vh] 27)).drew.cell? ⟨w.heap.size, 4, none⟩ = some vi := by simp [go_sem]
  have k5 : (w.alloc (.cells #[.int .i64 ins, .slice p ps.length cap, .int .i64 a, .int .i64 s, vi, vn, vb, vh] 27)).drew.cell? ⟨w.heap.size, 5, none⟩ = some vn := by simp [go_sem]
  have k6 : (w.alloc (.cells #[.int .i64 ins, .slice p ps.length cap, .int .i64 a, .int .i64 s, vi, vn, vb, vh] 27)).drew.cell? ⟨w.heap.size, 6, none⟩ = some vb := by simp [go_sem]
  have k7 : (w.alloc (.cells #[.int .i64 ins, .slice p ps.length cap, .int .i64 a, .int .i64 s, vi, vn, vb, vh] 27)).drew.cell? ⟨w.heap.size, 7, none⟩ = some vh := by simp [go_sem]
  go_region_held3 (fun w' => w'.cell? ⟨w.heap.size, 0, none⟩ = some (.int .i64 ins) ∧ w'.cell? ⟨w.heap.size, 1, none⟩ = some (.slice p ps.length cap) ∧ w'.cell? ⟨w.heap.size, 2, none⟩ = some (.int .i64 a) ∧ w'.cell? ⟨w.heap.size, 3, none⟩ = some (.int .i64 s) ∧ w'.cell? ⟨w.heap.size, 4, none⟩ = some vi ∧ w'.cell? ⟨w.heap.size, 5, none⟩ = some vn ∧ w'.cell? ⟨w.heap.size, 6, none⟩ = some vb ∧ w'.cell? ⟨w.heap.size, 7, none⟩ = some vh)
    (first
      | exact ⟨cell_later hb3 (cell_later hb2 (cell_later hb1 k0)), cell_later hb3 (cell_later hb2 (cell_later hb1 k1)), cell_later hb3 (cell_later hb2 (cell_later hb1 k2)), cell_later hb3 (cell_later hb2 (cell_later hb1 k3)), cell_later hb3 (cell_later hb2 (cell_later hb1 k4)), cell_later hb3 (cell_later hb2 (cell_later hb1 k5)), cell_later hb3 (cell_later hb2 (cell_later hb1 k6)), cell_later hb3 (cell_later hb2 (cell_later hb1 k7))⟩
      | exact ⟨cell_later hb2 (cell_later hb1 k0), cell_later hb2 (cell_later hb1 k1), cell_later hb2 (cell_later hb1 k2), cell_later hb2 (cell_later hb1 k3), cell_later hb2 (cell_later hb1 k4), cell_later hb2 (cell_later hb1 k5), cell_later hb2 (cell_later hb1 k6), cell_later hb2 (cell_later hb1 k7)⟩
      | exact ⟨cell_later hb1 k0, cell_later hb1 k1, cell_later hb1 k2, cell_later hb1 k3, cell_later hb1 k4, cell_later hb1 k5, cell_later hb1 k6, cell_later hb1 k7⟩
      | go_keep)
    (first
      | (go_at_call 5; refine (HG.out _).mono ?_; rintro e w1 ⟨rfl, hb1⟩; have HB1 := hide (bthen hB1 hb1))
      | (go_at_call 6; refine (HK.out _ HB1.out).mono ?_; rintro e w2 ⟨rfl, hb2⟩; have HB2 := hide (bthen HB1.out hb2))
      | (go_at_call 7; refine (HP.out _ HB2.out).mono ?_; rintro e w3 ⟨rfl, hb3⟩; have HB3 := hide (bthen HB2.out hb3)))
  go_wp2
  go_ret
  exact ⟨rfl, HB3.out⟩
end Go.Proofs.YtabnimgpednhjabGreat.Gg

namespace Go.Proofs.YtabnimgpednhjabGreat
open Go.RowKit
set_option maxRecDepth 100000

theorem ret_int {k : IntKind} {a b : Int} (h : a = b) : Ending.returned (.int k a) = .returned (.int k b) := by rw [h]
theorem ret_bool {a b : Bool} (h : a = b) : Ending.returned (.bool a) = .returned (.bool b) := by rw [h]

/-- From lo to hi. -/
def btw (n lo hi : Int) : Bool := decide (lo ≤ n) && decide (n ≤ hi)
theorem btw_true {n lo hi : Int} : btw n lo hi = true ↔ lo ≤ n ∧ n ≤ hi := by simp [btw]
theorem btw_false {n lo hi : Int} : btw n lo hi = false ↔ ¬ (lo ≤ n ∧ n ≤ hi) := by rw [← btw_true]; simp

set_option maxHeartbeats 400000 in
theorem isWidth_any (x : Int) (w : World) :
    Calls Tryz.prog 68 #[.int .i64 x] w fun e w' => e = .returned (.bool (btw x 1 8)) ∧ w' = w := by
  go_enter Tryz.func68, Tryz.ntmps68
  go_wp2
  all_goals
    go_ret
    exact ⟨ret_bool (by rw [Bool.eq_iff_iff, btw_true]; simp; try omega), rfl⟩

set_option maxHeartbeats 400000 in
theorem isOp_any (x : Int) (w : World) :
    Calls Tryz.prog 69 #[.int .i64 x] w fun e w' => e = .returned (.bool (btw x 4 23)) ∧ w' = w := by
  go_enter Tryz.func69, Tryz.ntmps69
  go_wp2
  all_goals
    go_ret
    exact ⟨ret_bool (by rw [Bool.eq_iff_iff, btw_true]; simp; try omega), rfl⟩

set_option maxHeartbeats 400000 in
theorem between_any (x lo hi : Int) (w : World) :
    Calls Tryz.prog 39 #[.int .i64 x, .int .i64 lo, .int .i64 hi] w fun e w' => e = .returned (.bool (btw x lo hi)) ∧ w' = w := by
  go_enter Tryz.func39, Tryz.ntmps39
  go_wp2
  all_goals
    go_ret
    exact ⟨ret_bool (by rw [Bool.eq_iff_iff, btw_true]; simp; try omega), rfl⟩

/-- How many words a kind takes. -/
def takes (k : Int) : Int :=
  if k = 4 ∨ k = 5 ∨ k = 21 ∨ k = 22 ∨ k = 23 then 1 else if k = 19 then 3 else if 6 ≤ k ∧ k ≤ 20 then 2 else 0

set_option maxHeartbeats 400000 in
theorem takes_any (x : Int) (w : World) :
    Calls Tryz.prog 61 #[.int .i64 x] w fun e w' => e = .returned (.int .i64 (takes x)) ∧ w' = w := by
  go_enter Tryz.func61, Tryz.ntmps61
  go_wp2
  all_goals
    go_ret
    refine ⟨ret_int ?_, rfl⟩
    simp only [beq_iff_eq, beq_eq_false_iff_ne, ne_eq] at *
    unfold takes
    (repeat' split) <;> omega

set_option maxHeartbeats 400000 in
theorem words_any (x : Int) (w : World) :
    Calls Tryz.prog 88 #[.int .i64 x] w fun e w' => e = .returned (.int .i64 (takes x)) ∧ w' = w := by
  go_enter Tryz.func88, Tryz.ntmps88
  go_wp2
  all_goals
    go_ret
    refine ⟨ret_int ?_, rfl⟩
    simp only [beq_iff_eq, beq_eq_false_iff_ne, ne_eq] at *
    unfold takes
    (repeat' split) <;> omega


/-- The shape of a kind, as a number. -/
def shape (k : Int) : Int :=
  if ¬ (4 ≤ k ∧ k ≤ 23) then 0 else if k ≤ 5 then 1 else if k ≤ 15 then 2 else if k ≤ 18 then 3 else if k = 19 then 4 else if k = 20 then 5 else if k = 21 then 6 else 7

set_option maxHeartbeats 400000 in
theorem shapeOf_any (x : Int) (w : World) :
    Calls Tryz.prog 113 #[.int .i64 x] w fun e w' => e = .returned (.int .i64 (shape x)) ∧ w' = w := by
  go_enter Tryz.func113, Tryz.ntmps113
  go_wp2
  all_goals
    go_ret
    refine ⟨ret_int ?_, rfl⟩
    try simp only [beq_iff_eq, beq_eq_false_iff_ne, ne_eq, Bool.not_eq_true', Bool.not_eq_false', decide_eq_true_eq, decide_eq_false_iff_not] at *
    unfold shape
    (repeat' split) <;> omega

theorem push_set {α : Type} (a : Array α) (x y : α) : (a.push x).setIfInBounds a.size y = a.push y := by
  apply Array.ext'
  simp

theorem checkKey_int {P : Program} {t : TypeId} {q : IntKind} (h : P.underlying t = some (.int q)) (b : Bool) (n : Nat) (v : Value) (w : World) : (Instr.checkKey b (n + 1) t v).run P w = .ok () w := by
  simp [Instr.checkKey, run_underlying h]

theorem run_ins (w : World) (es : Array MapEntry) (c : Nat) (k : Int) (v : Value)
    (h : Instr.findNow (.int .i64) (.int .i64 k) es.toList 0 = some none) :
    (Instr.mapUpdate 131 (.map (some w.heap.size)) (.int .i64 k) v).run Tryz.prog (w.alloc (.map es c)) = .ok () (w.alloc (.map (es.push ⟨.int .i64 k, v, c⟩) (c+1))) := by
  have hb : (w.alloc (.map es c)).heap[w.heap.size]? = some (.map es c) := (MapKept.heap_alloc w _).1
  have hk := checkKey_int Tryz.underlying133 false 9999 (.int .i64 k) (w.alloc (.map es c))
  unfold Instr.mapUpdate
  simp only [Sem.run_bind, run_underlying Tryz.underlying131, MapKept.run_getObj_map hb, Result.andThen, hk]
  simp [Instr.findKey, run_underlying Tryz.underlying133, h,  MapKept.run_setObj_map _ hb]
  show World.mk ((w.heap.push _).setIfInBounds w.heap.size _) _ _ _ _ = World.mk (w.heap.push _) _ _ _ _
  rw [push_set]
  rfl

/-- A demand, as a value. -/
abbrev dm (o a b c : Int) : Value := .agg #[.int .i64 o, .int .i64 a, .int .i64 b, .int .i64 c]
/-- An entry of the map of demands. -/
abbrev dmE (n : Nat) (k : Int) (v : Value) : MapEntry := ⟨.int .i64 k, v, n⟩
def dmMap : Array MapEntry := #[dmE 0 1 (dm 0 2 0 0), dmE 1 2 (dm 0 2 2 0), dmE 2 3 (dm 1 0 3 0), dmE 3 4 (dm 0 1 2 2), dmE 4 5 (dm 0 0 4 0), dmE 5 6 (dm 0 5 0 0), dmE 6 7 (dm 0 6 0 0)]

set_option maxRecDepth 100000 in
set_option maxHeartbeats 400000 in
theorem demands_any (w : World) :
    Calls Tryz.prog 112 #[] w fun e w' => e = .returned (.map (some w.heap.size)) ∧ w' = w.alloc (.map dmMap 7) := by
  have hmm := @run_makeMap Tryz.prog
  have i1 := fun v => run_ins w #[] 0 1 v (by simp [Instr.findNow])
  have i2 := fun v1 v => run_ins w #[⟨.int .i64 1, v1, 0⟩] 1 2 v (by simp [Instr.findNow, Instr.sameNow])
  have i3 := fun v1 v2 v => run_ins w #[⟨.int .i64 1, v1, 0⟩, ⟨.int .i64 2, v2, 1⟩] 2 3 v (by simp [Instr.findNow, Instr.sameNow])
  have i4 := fun v1 v2 v3 v => run_ins w #[⟨.int .i64 1, v1, 0⟩, ⟨.int .i64 2, v2, 1⟩, ⟨.int .i64 3, v3, 2⟩] 3 4 v (by simp [Instr.findNow, Instr.sameNow])
  have i5 := fun v1 v2 v3 v4 v => run_ins w #[⟨.int .i64 1, v1, 0⟩, ⟨.int .i64 2, v2, 1⟩, ⟨.int .i64 3, v3, 2⟩, ⟨.int .i64 4, v4, 3⟩] 4 5 v (by simp [Instr.findNow, Instr.sameNow])
  have i6 := fun v1 v2 v3 v4 v5 v => run_ins w #[⟨.int .i64 1, v1, 0⟩, ⟨.int .i64 2, v2, 1⟩, ⟨.int .i64 3, v3, 2⟩, ⟨.int .i64 4, v4, 3⟩, ⟨.int .i64 5, v5, 4⟩] 5 6 v (by simp [Instr.findNow, Instr.sameNow])
  have i7 := fun v1 v2 v3 v4 v5 v6 v => run_ins w #[⟨.int .i64 1, v1, 0⟩, ⟨.int .i64 2, v2, 1⟩, ⟨.int .i64 3, v3, 2⟩, ⟨.int .i64 4, v4, 3⟩, ⟨.int .i64 5, v5, 4⟩, ⟨.int .i64 6, v6, 5⟩] 6 7 v (by simp [Instr.findNow, Instr.sameNow])
  go_enter Tryz.func112, Tryz.ntmps112
  go_wp2
  go_ret
  exact ⟨rfl, rfl⟩


/-- What a demand of one width says of it (asked: the number; own: the operation's width; a: a's width). -/
def askOk (asked by_ own a n : Int) : Bool :=
  if asked = 1 then by_ == 1 else if asked = 2 then by_ == own else if asked = 3 then by_ == a else if asked = 4 then by_ == own - a
  else if asked = 5 then decide (0 ≤ n) && decide (n ≤ by_ - own) else if asked = 6 then decide (by_ ≤ own) else true

set_option maxHeartbeats 400000 in
theorem meets_any (asked by_ own n a : Int) (p q r : Nat) (w : World)
    (h1 : w.cell? ⟨p, 0, none⟩ = some (.int .i64 own)) (h2 : w.cell? ⟨q, 0, none⟩ = some (.int .i64 a)) (h3 : w.cell? ⟨r, 0, none⟩ = some (.int .i64 n))
    (b1 : 0 ≤ own ∧ own ≤ 8) (b2 : 0 ≤ a ∧ a ≤ 8) (b3 : 0 ≤ by_ ∧ by_ ≤ 8) :
    Calls Tryz.prog 128 #[.int .i64 asked, .int .i64 by_, .pointer (some ⟨p, 0, none⟩), .pointer (some ⟨q, 0, none⟩), .pointer (some ⟨r, 0, none⟩)] w fun e w' => e = .returned (.bool (askOk asked by_ own a n)) ∧ w' = w := by
  go_enter Tryz.func128, Tryz.ntmps128
  go_wp2
  all_goals
    go_ret
    refine ⟨ret_bool ?_, rfl⟩
    simp only [beq_iff_eq, beq_eq_false_iff_ne, ne_eq] at *
    unfold askOk
    clear h1 h2 h3
    simp [*]
    try omega

end Go.Proofs.YtabnimgpednhjabGreat
