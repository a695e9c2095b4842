/- A node's words, one more of them. -/
import Derived.Test.YtabnimgpednhjaaDoorHd
import Derived.Deep.RegionLaw
import Derived.Deep.AppendLies
import Derived.Test.YtabnimgpednhjaaDoorProg
import Derived.WalkKit
import Derived.WalkSpells
import Derived.WalkLawsBesides
namespace Go.Proofs.YtabnimgpednhjaaDoor
open Go.RowKit Go.Deep
set_option maxRecDepth 100000

theorem bal {w w1 : World} (h : Below w.heap.size w w1) (o : Obj) : Below w.heap.size w (w1.alloc o) := h.alloc h.size o
theorem belowAl {w w1 w2 : World} (h : Below w.heap.size w w1) (k : Below w1.heap.size w1 w2) : Below w.heap.size w w2 := h.trans (k.mono h.size)
theorem past1 {w : World} {p : Addr} {v : Value} (h : w.cell? p = some v) (o : Obj) : (w.alloc o).cell? p = some v := cell_later (bal (Below.refl _ _) o) h
abbrev Pow (w : World) : Prop := Lib.TabIs Tryd.prog w "internal/strconv.uint64pow10" .u64 Lib.pow10Tab
theorem itoaC (x : Int) (h0 : -9223372036854775808 ≤ x) (h1 : x ≤ 9223372036854775807) (w : World) (ht : Pow w) : Calls Tryd.prog 22 #[.int .i64 x] w fun e w' => e = .returned (.string (itoaB x)) ∧ Below w.heap.size w w' := by
  refine (Tryd.strconv_Itoa x h0 h1 w ht).mono ?_
  rintro e w' ⟨rfl, kk, os, rfl⟩
  exact ⟨rfl, Lib.below_grow w.heap.size w (Nat.le_refl _) kk os⟩

/-- The words so far, in a variable of their own. -/
structure Wm (w : World) (base V : Nat) (v : Value) (ws : List ByteArray) : Prop where
  c : w.heap[V]? = some (.cells #[v] 54 (0, 0))
  row : w.ownsRow base 9 1 v ws.length (ws.map Value.string)
  hV : base ≤ V
theorem Wm.later {w w' : World} {base V : Nat} {v : Value} {ws : List ByteArray} (h : Wm w base V v ws) (hb : Below w.heap.size w w') : Wm w' base V v ws :=
  ⟨(hb.block _ (Array.getElem?_eq_some_iff.1 h.c).1).trans h.c, own_below h.row hb, h.hV⟩
theorem one_news (s : ByteArray) (w : World) : ∀ j u, ([.string s] : List Value)[j]? = some u → (w.alloc (.cells #[.string s] 9)).cell? ((⟨w.heap.size, 0, none⟩ : Addr).add j) = some u := fun j u hj => by
  match j, hj with
  | 0, hj => simp at hj; subst hj; simp [go_sem, Addr.add]
theorem one_cell (s : ByteArray) : ∀ u ∈ ([.string s] : List Value), u.oneCell' = true := fun u hu => by
  simp at hu; subst hu; rfl
theorem Wm.put {w w2 : World} {base V : Nat} {v v' : Value} {ws : List ByteArray} {s : ByteArray} (h : Wm w base V v ws) (o : Obj) (hg : (w.alloc o).grownBy w2 v.ownBlock) (hown : w2.ownsRow base 9 1 v' (ws ++ [s]).length ((ws ++ [s]).map Value.string)) (hbase : base ≤ w.heap.size) :
    Wm (w2.setCell ⟨V, 0, none⟩ v') base V v' (ws ++ [s]) ∧ Below base w (w2.setCell ⟨V, 0, none⟩ v') ∧ Lib.OthersKept 9 (some V) w (w2.setCell ⟨V, 0, none⟩ v') := by
  have h1 := h.later (bal (Below.refl _ _) o)
  have hne := Lib.ownBlock_ne h1.row h1.c (by decide)
  have hlt := (Array.getElem?_eq_some_iff.1 h1.c).1
  have t2 : w2.heap[V]? = some (.cells #[v] 54 (0, 0)) := (hg.block _ hlt (fun e => hne e.symm)).trans h1.c
  refine ⟨⟨?_, ?_, h.hV⟩, ?_, ?_⟩
  · rw [heap_setCell_same _ _ _ _ _ _ t2]; rfl
  · exact ownsRow_setCell_other hown (Lib.ownBlock_ne hown t2 (by decide)) _
  · exact (((Below.refl base w).alloc hbase o).grown hg (by simp; omega) (fun j hj => (h1.row.lt j hj).1)).setCell (p := ⟨V, 0, none⟩) h.hV _
  · have k1 : Lib.OthersKept 9 (some V) w (w.alloc o) := (Lib.OthersKept.refl _ _ _).alloc o
    exact (k1.grown hg (own_kind h1.row)).setCell ⟨V, 0, none⟩ rfl _

set_option maxHeartbeats 4000000 in
theorem node1_any (base V nb i : Nat) (v : Value) (ws : List ByteArray) (hws : ws.length ≤ 1000) (x : Int) (h0 : -9223372036854775808 ≤ x) (h1 : x ≤ 9223372036854775807) (w : World) (hbs : base ≤ w.heap.size) (hm : Wm w base V v ws) (hx : w.cell? ⟨nb, i, none⟩ = some (.int .i64 x)) (ht : Pow w) :
    Calls Tryd.prog 24 #[.pointer (some ⟨nb, i, none⟩), .pointer (some ⟨V, 0, none⟩)] w fun e w' => e = .returned (.tuple #[]) ∧ (∃ v', Wm w' base V v' (ws ++ [itoaB x])) ∧ Below base w w' ∧ Lib.OthersKept 9 (some V) w w' := by
  obtain ⟨i0, hi, hz0, hz1, hz2⟩ := info_parts info9
  obtain ⟨pv, cv, rfl, _⟩ := strs_of hm.row
  have HIT := hide (fun (w' : World) (hb : Below w.heap.size w w') => itoaC x h0 h1 w' (tab_later ht hb))
  have m0 : w.cell? ⟨V, 0, none⟩ = some (.slice pv ws.length cv) := by rw [Lib.cell_of_heap hm.c]; rfl
  have f0 : w.frozen? ⟨V, 0, none⟩ = false := Lib.frozen_of_heap hm.c 0
  have HM := hide hm
  have HIN := hide (And.intro hi (And.intro hz0 (And.intro hz1 hz2)))
  clear hm ht hi hz0 hz1 hz2
  go_enter Tryd.func24, Tryd.ntmps24
  go_wp2
  go_region_law (first
    | (go_simp; go_at_call 22; refine (HIT.out _ (Below.refl _ _).drew).mono ?_; rintro e w1 ⟨rfl, hb1⟩; have hb1' := (show Below w.heap.size w w1 from (Below.refl _ w).drew.trans hb1); have hm1 := HM.out.later hb1'; have m1 : w1.cell? ⟨V, 0, none⟩ = some (.slice pv ws.length cv) := by rw [Lib.cell_of_heap hm1.c]; rfl
       have HM1 := hide hm1
       have hM1 := World.block_lt_of_cell? _ _ m1
       simp only at hM1
       have hM2 := World.new_ne w1 ⟨V, 0, none⟩ m1
       simp only at hM2
       clear hm1)
    | (refine step_append_lies _ rfl (.tmp 3) (.tmp 8) 54 rfl base 9 i0 (.string ⟨#[]⟩) 1 16 Tryd.underlying54 HIN.out.1 HIN.out.2.1 HIN.out.2.2.1 HIN.out.2.2.2 rfl (by decide) _ ws.length (ws.map Value.string) (by simp [Act.eval]) (HM1.out.row.alloc _) ⟨w1.heap.size, 0, none⟩ 1 1 [.string (itoaB x)] (by simp [Act.eval]) rfl (one_news (itoaB x) w1) (one_cell (itoaB x)) (by decide) (by unfold maxLen; omega) (by omega) (by simp; have := hb1'.size; omega) (w1.heap.size + 1) (by simp) ?_
       intro g cap w2 hown2 hg2 hat2 hlt2
       have hb2 := HM1.out.later (bal (Below.refl _ _) (.cells #[.string (itoaB x)] 9))
       have t2 : w2.heap[V]? = some (.cells #[.slice pv ws.length cv] 54 (0, 0)) := (hg2.block _ (Array.getElem?_eq_some_iff.1 hb2.c).1 (fun e => Lib.ownBlock_ne hb2.row hb2.c (by decide) e.symm)).trans hb2.c
       have g2 : w2.cell? ⟨V, 0, none⟩ = some (.slice pv ws.length cv) := by rw [Lib.cell_of_heap t2]; rfl
       have f2 : w2.frozen? ⟨V, 0, none⟩ = false := Lib.frozen_of_heap t2 0))
  all_goals
    have hp := HM1.out.put (s := itoaB x) (.cells #[.string (itoaB x)] 9) hg2 (by simpa using hown2) (by have := hb1'.size; omega)
    have HP := hide hp
    have HB := hide (hb1'.mono hbs)
    have HK : Hid (Lib.OthersKept 9 (some V) w w1) := others_of hb1' (Nat.le_refl _)
    clear hp
    go_end0
    exact ⟨rfl, ⟨_, HP.out.1⟩, HB.out.trans HP.out.2.1, HK.out.trans HP.out.2.2⟩
end Go.Proofs.YtabnimgpednhjaaDoor

namespace Go.Proofs.YtabnimgpednhjaaDoor.Ev
open Go.RowKit
set_option maxRecDepth 100000

theorem ret_int {k : IntKind} {a b : Int} (h : a = b) : Ending.returned (.int k a) = .returned (.int k b) := by rw [h]
theorem ret_bool {a b : Bool} (h : a = b) : Ending.returned (.bool a) = .returned (.bool b) := by rw [h]

/-- From lo to hi. -/
def btw (n lo hi : Int) : Bool := decide (lo ≤ n) && decide (n ≤ hi)
theorem btw_true {n lo hi : Int} : btw n lo hi = true ↔ lo ≤ n ∧ n ≤ hi := by simp [btw]
theorem btw_false {n lo hi : Int} : btw n lo hi = false ↔ ¬ (lo ≤ n ∧ n ≤ hi) := by rw [← btw_true]; simp

set_option maxHeartbeats 400000 in
theorem isWidth_any (x : Int) (w : World) :
    Calls Tryd.prog 34 #[.int .i64 x] w fun e w' => e = .returned (.bool (btw x 1 8)) ∧ w' = w := by
  go_enter Tryd.func34, Tryd.ntmps34
  go_wp2
  all_goals
    go_ret
    exact ⟨ret_bool (by rw [Bool.eq_iff_iff, btw_true]; simp; try omega), rfl⟩

set_option maxHeartbeats 400000 in
theorem isOp_any (x : Int) (w : World) :
    Calls Tryd.prog 35 #[.int .i64 x] w fun e w' => e = .returned (.bool (btw x 4 23)) ∧ w' = w := by
  go_enter Tryd.func35, Tryd.ntmps35
  go_wp2
  all_goals
    go_ret
    exact ⟨ret_bool (by rw [Bool.eq_iff_iff, btw_true]; simp; try omega), rfl⟩

/-- How many words a kind takes. -/
def takes (k : Int) : Int :=
  if k = 4 ∨ k = 5 ∨ k = 21 ∨ k = 22 ∨ k = 23 then 1 else if k = 19 then 3 else if 6 ≤ k ∧ k ≤ 20 then 2 else 0

set_option maxHeartbeats 400000 in
theorem words_any (x : Int) (w : World) :
    Calls Tryd.prog 49 #[.int .i64 x] w fun e w' => e = .returned (.int .i64 (takes x)) ∧ w' = w := by
  go_enter Tryd.func49, Tryd.ntmps49
  go_wp2
  all_goals
    go_ret
    refine ⟨ret_int ?_, rfl⟩
    simp only [beq_iff_eq, beq_eq_false_iff_ne, ne_eq] at *
    unfold takes
    (repeat' split) <;> omega


/-- The shape of a kind, as a number. -/
def shape (k : Int) : Int :=
  if ¬ (4 ≤ k ∧ k ≤ 23) then 0 else if k ≤ 5 then 1 else if k ≤ 15 then 2 else if k ≤ 18 then 3 else if k = 19 then 4 else if k = 20 then 5 else if k = 21 then 6 else 7

set_option maxHeartbeats 400000 in
theorem shapeOf_any (x : Int) (w : World) :
    Calls Tryd.prog 72 #[.int .i64 x] w fun e w' => e = .returned (.int .i64 (shape x)) ∧ w' = w := by
  go_enter Tryd.func72, Tryd.ntmps72
  go_wp2
  all_goals
    go_ret
    refine ⟨ret_int ?_, rfl⟩
    try simp only [beq_iff_eq, beq_eq_false_iff_ne, ne_eq, Bool.not_eq_true', Bool.not_eq_false', decide_eq_true_eq, decide_eq_false_iff_not] at *
    unfold shape
    (repeat' split) <;> omega

theorem push_set {α : Type} (a : Array α) (x y : α) : (a.push x).setIfInBounds a.size y = a.push y := by
  apply Array.ext'
  simp

theorem checkKey_int {P : Program} {t : TypeId} {q : IntKind} (h : P.underlying t = some (.int q)) (b : Bool) (n : Nat) (v : Value) (w : World) : (Instr.checkKey b (n + 1) t v).run P w = .ok () w := by
  simp [Instr.checkKey, run_underlying h]

theorem run_ins (w : World) (es : Array MapEntry) (c : Nat) (k : Int) (v : Value)
    (h : Instr.findNow (.int .i64) (.int .i64 k) es.toList 0 = some none) :
    (Instr.mapUpdate 124 (.map (some w.heap.size)) (.int .i64 k) v).run Tryd.prog (w.alloc (.map es c)) = .ok () (w.alloc (.map (es.push ⟨.int .i64 k, v, c⟩) (c+1))) := by
  have hb : (w.alloc (.map es c)).heap[w.heap.size]? = some (.map es c) := (MapKept.heap_alloc w _).1
  have hk := checkKey_int Tryd.underlying126 false 9999 (.int .i64 k) (w.alloc (.map es c))
  unfold Instr.mapUpdate
  simp only [Sem.run_bind, run_underlying Tryd.underlying124, MapKept.run_getObj_map hb, Result.andThen, hk]
  simp [Instr.findKey, run_underlying Tryd.underlying126, h,  MapKept.run_setObj_map _ hb]
  show World.mk ((w.heap.push _).setIfInBounds w.heap.size _) _ _ _ _ = World.mk (w.heap.push _) _ _ _ _
  rw [push_set]
  rfl

/-- A demand, as a value. -/
abbrev dm (o a b c : Int) : Value := .agg #[.int .i64 o, .int .i64 a, .int .i64 b, .int .i64 c]
/-- An entry of the map of demands. -/
abbrev dmE (n : Nat) (k : Int) (v : Value) : MapEntry := ⟨.int .i64 k, v, n⟩
def dmMap : Array MapEntry := #[dmE 0 1 (dm 0 2 0 0), dmE 1 2 (dm 0 2 2 0), dmE 2 3 (dm 1 0 3 0), dmE 3 4 (dm 0 1 2 2), dmE 4 5 (dm 0 0 4 0), dmE 5 6 (dm 0 5 0 0), dmE 6 7 (dm 0 6 0 0)]

set_option maxRecDepth 100000 in
set_option maxHeartbeats 400000 in
theorem demands_any (w : World) :
    Calls Tryd.prog 71 #[] w fun e w' => e = .returned (.map (some w.heap.size)) ∧ w' = w.alloc (.map dmMap 7) := by
  have hmm := @run_makeMap Tryd.prog
  have i1 := fun v => run_ins w #[] 0 1 v (by simp [Instr.findNow])
  have i2 := fun v1 v => run_ins w #[⟨.int .i64 1, v1, 0⟩] 1 2 v (by simp [Instr.findNow, Instr.sameNow])
  have i3 := fun v1 v2 v => run_ins w #[⟨.int .i64 1, v1, 0⟩, ⟨.int .i64 2, v2, 1⟩] 2 3 v (by simp [Instr.findNow, Instr.sameNow])
  have i4 := fun v1 v2 v3 v => run_ins w #[⟨.int .i64 1, v1, 0⟩, ⟨.int .i64 2, v2, 1⟩, ⟨.int .i64 3, v3, 2⟩] 3 4 v (by simp [Instr.findNow, Instr.sameNow])
  have i5 := fun v1 v2 v3 v4 v => run_ins w #[⟨.int .i64 1, v1, 0⟩, ⟨.int .i64 2, v2, 1⟩, ⟨.int .i64 3, v3, 2⟩, ⟨.int .i64 4, v4, 3⟩] 4 5 v (by simp [Instr.findNow, Instr.sameNow])
  have i6 := fun v1 v2 v3 v4 v5 v => run_ins w #[⟨.int .i64 1, v1, 0⟩, ⟨.int .i64 2, v2, 1⟩, ⟨.int .i64 3, v3, 2⟩, ⟨.int .i64 4, v4, 3⟩, ⟨.int .i64 5, v5, 4⟩] 5 6 v (by simp [Instr.findNow, Instr.sameNow])
  have i7 := fun v1 v2 v3 v4 v5 v6 v => run_ins w #[⟨.int .i64 1, v1, 0⟩, ⟨.int .i64 2, v2, 1⟩, ⟨.int .i64 3, v3, 2⟩, ⟨.int .i64 4, v4, 3⟩, ⟨.int .i64 5, v5, 4⟩, ⟨.int .i64 6, v6, 5⟩] 6 7 v (by simp [Instr.findNow, Instr.sameNow])
  go_enter Tryd.func71, Tryd.ntmps71
  go_wp2
  go_ret
  exact ⟨rfl, rfl⟩


/-- What a demand of one width says of it (asked: the number; own: the operation's width; a: a's width). -/
def askOk (asked by_ own a n : Int) : Bool :=
  if asked = 1 then by_ == 1 else if asked = 2 then by_ == own else if asked = 3 then by_ == a else if asked = 4 then by_ == own - a
  else if asked = 5 then decide (0 ≤ n) && decide (n ≤ by_ - own) else if asked = 6 then decide (by_ ≤ own) else true

set_option maxHeartbeats 400000 in
theorem meets_any (asked by_ own n a : Int) (p q r : Nat) (w : World)
    (h1 : w.cell? ⟨p, 0, none⟩ = some (.int .i64 own)) (h2 : w.cell? ⟨q, 0, none⟩ = some (.int .i64 a)) (h3 : w.cell? ⟨r, 0, none⟩ = some (.int .i64 n))
    (b1 : 0 ≤ own ∧ own ≤ 8) (b2 : 0 ≤ a ∧ a ≤ 8) (b3 : 0 ≤ by_ ∧ by_ ≤ 8) :
    Calls Tryd.prog 87 #[.int .i64 asked, .int .i64 by_, .pointer (some ⟨p, 0, none⟩), .pointer (some ⟨q, 0, none⟩), .pointer (some ⟨r, 0, none⟩)] w fun e w' => e = .returned (.bool (askOk asked by_ own a n)) ∧ w' = w := by
  go_enter Tryd.func87, Tryd.ntmps87
  go_wp2
  all_goals
    go_ret
    refine ⟨ret_bool ?_, rfl⟩
    simp only [beq_iff_eq, beq_eq_false_iff_ne, ne_eq] at *
    unfold askOk
    clear h1 h2 h3
    simp [*]
    try omega

end Go.Proofs.YtabnimgpednhjaaDoor.Ev
