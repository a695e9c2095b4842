/- Gates: what nodes are. -/
import Derived.Test.YtkinmangilbeeaaGreatDoorGkM
namespace Go.Proofs.YtkinmangilbeeaaGreatDoor
open Go.RowKit Go.Maps Go.WideMaps
set_option maxRecDepth 100000

theorem info4 : (Tryz.prog.info? 4).map (fun i => (i.zero, i.size, i.bytes)) = some (some (.bool false), 1, 1) := by kernel_rfl

theorem owns_bools {w : World} {base : Nat} {v : Value} {l : List Bool} (h : w.ownsRow base 4 1 v l.length (l.map Value.bool)) : ∃ p cap, v = .slice p l.length cap ∧ BoolsAt w p l := by
  have h3 := h
  obtain ⟨h1, h2⟩ := h
  rcases h2 with ⟨rfl, h0⟩ | ⟨g, cap, cur, rfl, hg, hh, hn, hm, hs, ht⟩
  · refine ⟨none, 0, by rw [h0], fun h => by omega⟩
  · refine ⟨_, cap, rfl, fun _ => ⟨g, 0, rfl, fun i hi => ?_⟩⟩
    have := h3.cellAt i (by omega)
    rw [Nat.zero_add, this, List.getElem?_map, List.getElem?_eq_getElem hi]
    rfl

theorem bools_cells {w : World} {l : List Bool} {ad : Addr} (h : BoolsAt w (some ad) l) : ∀ j u, (l.map Value.bool)[j]? = some u → w.cell? (ad.add j) = some u := by
  intro j u hj
  obtain ⟨hjl, hju⟩ := List.getElem?_eq_some_iff.1 hj
  have hjl' : j < l.length := by simpa using hjl
  obtain ⟨b, off, h, hc⟩ := h (by omega)
  cases h
  rw [Addr.add_lit, hc j hjl', ← hju]
  simp

theorem wpList_append_bools {w : World} {ops : Array Oper} {rest : List Oper} {o : Oper} {a : Act} {Q : Exit → Act → World → Prop} (hgd : o.guard = none) (s x : Operand)
    (ho : o.op = .call { callee := .builtin .append, args := #[s, x], argTypes := #[25, 25] })
    (base : Nat) (v : Value) (u l : List Bool) (hs : a.eval s = v) (hown : w.ownsRow base 4 1 v u.length (u.map Value.bool)) (p : Option Addr) (c : Nat) (hx : a.eval x = .slice p l.length c) (hB : BoolsAt w p l) (hnil : p = none → c = 0)
    (hb : u.length + l.length ≤ 70368744177664) (hbase : base ≤ w.heap.size)
    (hK : ∀ v' w', w'.ownsRow base 4 1 v' (u ++ l).length ((u ++ l).map Value.bool) → w.grownBy w' v.ownBlock → wpList Tryz.prog ops Q rest (a.put o.dst v') w') : wpList Tryz.prog ops Q (o :: rest) a w := by
  obtain ⟨i0, hi, hz0, hz1, hz2⟩ := info_parts info4
  cases p with
  | none =>
    have h0 : l = [] := by
      cases l with
      | nil => rfl
      | cons a t => obtain ⟨b, off, h, _⟩ := hB (by simp); cases h
    subst h0
    obtain rfl := hnil rfl
    have hrun := run_append_owned_none (P := Tryz.prog) (w := w) base 25 o.type 4 i0 1 Tryz.underlying25 hi v u.length _ hown
    refine wpList_plain hgd fun K' hK' => ?_
    unfold Oper.wp
    simp only [List.length_nil] at hx
    simp [execOp, ho, resolve, invoke, builtin, hs, hx, hrun, Result.andThen]
    exact hK' _ _ (hK v w (by simpa using hown) ⟨rfl, rfl, rfl, Nat.le_refl _, fun _ _ _ => rfl⟩)
  | some ad =>
    refine wpList_append_own w hgd s x 25 ho base 4 i0 (.bool false) 1 1 Tryz.underlying25 hi hz0 hz1 hz2 rfl (by decide) v u.length _ hs hown ad l.length c (l.map Value.bool) hx (by simp) (bools_cells hB) ?_ (by unfold maxLen; omega) (by omega) hbase (fun v' w' a b _ => hK v' w' (by simpa using a) b)
    intro u hu
    obtain ⟨x, _, rfl⟩ := List.mem_map.1 hu
    rfl

theorem bools_one {w : World} (x : Bool) : BoolsAt (w.alloc (.cells #[.bool x] 4)) (some ⟨w.heap.size, 0, none⟩) [x] := fun _ => ⟨w.heap.size, 0, rfl, fun i hi => by
  match i, hi with
  | 0, _ => simp [go_sem]⟩

/-- What the first nodes are. -/
def nodesV (bs : List Bool) (ps : List (Int × Int)) : Nat → List Bool
  | 0 => false :: bs
  | k + 1 => nodesV bs ps k ++ [match ps[k]? with | some p => litV (nodesV bs ps k) p.1 && litV (nodesV bs ps k) p.2 | none => false]
theorem nodesV_succ {bs : List Bool} {ps : List (Int × Int)} {k : Nat} (h : k < ps.length) : nodesV bs ps (k + 1) = nodesV bs ps k ++ [litV (nodesV bs ps k) ps[k].1 && litV (nodesV bs ps k) ps[k].2] := by
  simp [nodesV, List.getElem?_eq_getElem h]
theorem nodesV_len (bs : List Bool) (ps : List (Int × Int)) (k : Nat) : (nodesV bs ps k).length = 1 + bs.length + k := by
  induction k with
  | zero => simp [nodesV]; omega
  | succ k ih => simp [nodesV, ih]; omega

theorem make_bools (N : Nat) (hN : 1 ≤ N) (h2 : N ≤ 2000000) : ∃ CZ : Array Value, (∀ w : World, (w.alloc (.cells CZ 4)).ownsRow w.heap.size 4 1 (.slice (some ⟨w.heap.size, 0, none⟩) 1 N) 1 [.bool false]) ∧
    ∀ w : World, (Instr.makeSlice 25 (.int .i64 1) (.int .i64 (N : Int))).run Tryz.prog w = .ok (.slice (some ⟨w.heap.size, 0, none⟩) 1 N) (w.alloc (.cells CZ 4)) := by
  obtain ⟨i0, hi, hz0, hz1, hz2⟩ := info_parts info4
  refine ⟨madeCells #[.bool false] N, fun w => ⟨rfl, .inr ⟨w.heap.size, N, _, rfl, Nat.le_refl _, heap_alloc_new w _, hN, by unfold maxLen; omega, by rw [size_madeCells]; omega, ?_⟩⟩, fun w => ?_⟩
  · rw [toList_madeCells_one]
    cases N with
    | zero => omega
    | succ n => simp [List.replicate_succ]
  · have h := run_makeSlice (P := Tryz.prog) w 25 4 i0 (.bool false) Tryz.underlying25 hi hz0 .i64 .i64 1 (N : Int) (by omega) (by omega) (by rw [hz1]; simp; omega) (by rw [hz2]; omega) (by omega)
    rw [hz1, Nat.mul_one, Int.toNat_natCast] at h
    exact h

theorem stand_bd {a b n : Int} (h : standB a b n = true) : 0 ≤ a ∧ a < 2 * n ∧ 0 ≤ b ∧ b < 2 * n := by
  simp [standB] at h
  omega

end Go.Proofs.YtkinmangilbeeaaGreatDoor

namespace Go.Proofs.YtkinmangilbeeaaGreatDoor
open Go.RowKit Go.Maps Go.WideMaps
set_option maxRecDepth 100000

/-- A row of bools in memory. -/
def BRow (w : World) (g : Nat) (bs : List Bool) : Prop := ∀ (j : Nat) (h : j < bs.length), w.cell? ⟨g, j, none⟩ = some (.bool bs[j]) ∧ w.frozen? ⟨g, j, none⟩ = false
theorem BRow.later {w w1 : World} {g : Nat} {bs : List Bool} (h : BRow w g bs) (hb : Below w.heap.size w w1) : BRow w1 g bs := fun j hj =>
  ⟨cell_later hb (h j hj).1, by rw [hb.frozen (World.block_lt_of_cell? _ _ (h j hj).1)]; exact (h j hj).2⟩
theorem BRow.set {w : World} {g : Nat} {bs : List Bool} (h : BRow w g bs) (k : Nat) (b : Bool) : BRow (w.setCell ⟨g, k, none⟩ (.bool b)) g (bs.set k b) := by
  intro j hj
  rw [List.length_set] at hj
  refine ⟨?_, by rw [World.frozen?_setCell]; exact (h j hj).2⟩
  by_cases e : k = j
  · subst e
    rw [World.cell?_setCell_same w _ _ (h k hj).1]
    simp
  · rw [World.cell?_setCell_other w _ _ _ (by simp), (h j hj).1]
    rw [List.getElem_set_ne e]
theorem brow_bools {w : World} {g : Nat} {bs : List Bool} (h : BRow w g bs) : BoolsAt w (some ⟨g, 0, none⟩) bs := fun _ => ⟨g, 0, rfl, fun i hi => by rw [Nat.zero_add]; exact (h i hi).1⟩

theorem make_row (n : Nat) (hn : n ≤ 17592186044416) (w : World) : ∃ w', (Instr.makeSlice 25 (.int .i64 (n : Int)) (.int .i64 (n : Int))).run Tryz.prog w = .ok (.slice (some ⟨w.heap.size, 0, none⟩) n n) w' ∧ BRow w' w.heap.size (List.replicate n false) ∧ Below w.heap.size w w' ∧ w.heap.size < w'.heap.size := by
  obtain ⟨i0, hi, hz0, hz1, hz2⟩ := info_parts info4
  obtain ⟨w', h1, h2, h3⟩ := run_make_full (P := Tryz.prog) w w.heap.size 25 4 i0 (.bool false) 1 Tryz.underlying25 hi hz0 hz1 .i64 .i64 n (by rw [hz2]; omega) (by unfold maxLen; omega) (Nat.le_refl _)
  refine ⟨w', h1, fun j hj => ?_, ⟨h3.os, h3.tape, h3.output, h3.size, fun k hk => h3.block k hk (by simp)⟩, (h2.lt w.heap.size rfl).2⟩
  have hj' : j < n := by simpa using hj
  refine ⟨?_, h2.frozenAt j⟩
  rw [h2.cellAt j (by omega)]
  simp [toList_madeCells_one, hj', Value.cells]

/-- What Eval says. -/
def evE (ins : Int) (ps : List (Int × Int)) (bs : List Bool) (ls : List Int) : Int :=
  if chkE ins ps ≠ 0 then chkE ins ps else if ls.any (noLit (2 * (1 + ins + ps.length))) = true then 5 else if (bs.length : Int) ≠ ins then 1 else 0
def evL (ps : List (Int × Int)) (bs : List Bool) (ls : List Int) (e : Int) : List Bool := if e = 0 then ls.map (litV (nodesV bs ps ps.length)) else []

/-- Some of them done. -/
def curB (f : Int → Bool) (ls : List Int) (k : Nat) : List Bool := (ls.take k).map f ++ List.replicate (ls.length - k) false
theorem curB_zero (f : Int → Bool) (ls : List Int) : curB f ls 0 = List.replicate ls.length false := by simp [curB]
theorem curB_all (f : Int → Bool) (ls : List Int) : curB f ls ls.length = ls.map f := by simp [curB]
theorem curB_len (f : Int → Bool) (ls : List Int) (k : Nat) (h : k ≤ ls.length) : (curB f ls k).length = ls.length := by simp [curB]; omega
theorem curB_set (f : Int → Bool) (ls : List Int) (k : Nat) (h : k < ls.length) : (curB f ls k).set k (f ls[k]) = curB f ls (k + 1) := by
  unfold curB
  rw [List.take_succ_eq_append_getElem h, List.map_append, List.set_append_right _ _ (by simp; omega)]
  have e : ls.length - k = (ls.length - (k + 1)) + 1 := by omega
  have e2 : k - ((ls.take k).map f).length = 0 := by simp; omega
  rw [e, e2, List.replicate_succ, List.set_cons_zero]
  simp

end Go.Proofs.YtkinmangilbeeaaGreatDoor

namespace Go.Proofs.YtkinmangilbeeaaGreatDoor
open Go.RowKit Go.Maps Go.WideMaps
set_option maxRecDepth 100000

def refLit (ins : Int) (ps : List (Int × Int)) (x y : Int) : Int := if x = 0 ∨ (x / 2 = y / 2 ∧ x ≠ y) then 0 else if x = 1 ∨ x = y then y else if 0 ≤ andAt ps ps.length (x, y) then 2 * (1 + ins + andAt ps ps.length (x, y)) else 2 * (1 + ins + ps.length)
def refPs (ps : List (Int × Int)) (x y : Int) : List (Int × Int) := if x = 0 ∨ (x / 2 = y / 2 ∧ x ≠ y) then ps else if x = 1 ∨ x = y then ps else if 0 ≤ andAt ps ps.length (x, y) then ps else ps ++ [(x, y)]

theorem ref_no {ins : Int} {ps : List (Int × Int)} {x y : Int} (h : x = 0 ∨ (x / 2 = y / 2 ∧ x ≠ y)) : refLit ins ps x y = 0 ∧ refPs ps x y = ps := by
  unfold refLit refPs; rw [if_pos h, if_pos h]; exact ⟨rfl, rfl⟩
theorem ref_one {ins : Int} {ps : List (Int × Int)} {x y : Int} (h : ¬ (x = 0 ∨ (x / 2 = y / 2 ∧ x ≠ y))) (h2 : x = 1 ∨ x = y) : refLit ins ps x y = y ∧ refPs ps x y = ps := by
  unfold refLit refPs; rw [if_neg h, if_neg h, if_pos h2, if_pos h2]; exact ⟨rfl, rfl⟩
theorem ref_at {ins : Int} {ps : List (Int × Int)} {x y : Int} (h : ¬ (x = 0 ∨ (x / 2 = y / 2 ∧ x ≠ y))) (h2 : ¬ (x = 1 ∨ x = y)) (h3 : 0 ≤ andAt ps ps.length (x, y)) : refLit ins ps x y = 2 * (1 + ins + andAt ps ps.length (x, y)) ∧ refPs ps x y = ps := by
  unfold refLit refPs; rw [if_neg h, if_neg h, if_neg h2, if_neg h2, if_pos h3, if_pos h3]; exact ⟨rfl, rfl⟩
theorem ref_new {ins : Int} {ps : List (Int × Int)} {x y : Int} (h : ¬ (x = 0 ∨ (x / 2 = y / 2 ∧ x ≠ y))) (h2 : ¬ (x = 1 ∨ x = y)) (h3 : ¬ 0 ≤ andAt ps ps.length (x, y)) : refLit ins ps x y = 2 * (1 + ins + ps.length) ∧ refPs ps x y = ps ++ [(x, y)] := by
  unfold refLit refPs; rw [if_neg h, if_neg h, if_neg h2, if_neg h2, if_neg h3, if_neg h3]; exact ⟨rfl, rfl⟩

def AndIs (w w' : World) (e : Ending) (p : Option Addr) (ps : List (Int × Int)) (ins : Int) (qs : List (Int × Int)) (n : Int) : Prop := ∃ pv cv, e = .returned (.tuple #[gval ins pv qs.length cv, .int .i64 n]) ∧ PairsAt w' pv qs ∧ Below w.heap.size w w' ∧ ((pv = p ∧ qs = ps) ∨ ∀ b off, pv = some ⟨b, off, none⟩ → w.heap.size ≤ b)

theorem pairs_far {w : World} {p : Option Addr} {ps : List (Int × Int)} {q : Addr} {u : Value} (h : PairsAt w p ps) (hne : ∀ b off, p = some ⟨b, off, none⟩ → 0 < ps.length → b ≠ q.block) : PairsAt (w.setCell q u) p ps := by
  intro h0
  obtain ⟨b, off, rfl, hc⟩ := h h0
  exact ⟨b, off, rfl, fun i hi => ⟨cell_set_far (hc i hi).1 (hne b off rfl h0), cell_set_far (hc i hi).2 (hne b off rfl h0)⟩⟩
theorem pairs_lt {w : World} {p : Option Addr} {ps : List (Int × Int)} (h : PairsAt w p ps) : ∀ b off, p = some ⟨b, off, none⟩ → 0 < ps.length → b < w.heap.size := by
  intro b off e h0
  obtain ⟨b', off', e', hc⟩ := h h0
  rw [e] at e'
  cases e'
  exact World.block_lt_of_cell? _ _ (hc 0 h0).1

theorem pairs_one {w : World} {a b : Int} : PairsAt (w.alloc (.cells #[.int .i64 a, .int .i64 b] 36)) (some ⟨w.heap.size, 0, none⟩) [(a, b)] := fun _ => ⟨w.heap.size, 0, rfl, fun i hi => by
  match i, hi with
  | 0, _ => simp [go_sem]⟩

theorem owns_pairsN {w : World} {base n : Nat} {v : Value} {ps : List (Int × Int)} (hn : ps.length = n) (h : w.ownsRow base 36 2 v n (flat ps)) : ∃ p cap, v = .slice p n cap ∧ PairsAt w p ps := by
  subst hn; exact owns_pairs h

/-- What AndOf lays first. -/
abbrev laid (w : World) (ins : Int) (p : Option Addr) (len cap : Nat) : World := (w.alloc (.cells #[.int .i64 ins, .slice p len cap] 39)).alloc (.cells #[.int .i64 0, .slice none 0 0] 39)

end Go.Proofs.YtkinmangilbeeaaGreatDoor

namespace Go.Proofs.YtkinmangilbeeaaGreatDoor
open Go.RowKit Go.Maps Go.WideMaps
set_option maxRecDepth 100000

theorem turn_iff {x y : Int} : x = turn y ↔ x / 2 = y / 2 ∧ x ≠ y := by
  unfold turn odd
  by_cases h : y % 2 = 1
  · have : (y % 2 == 1) = true := by simpa using h
    rw [this, if_pos rfl]; omega
  · have : (y % 2 == 1) = false := by simpa using h
    rw [this, if_neg (by decide)]; omega

/-- The two Ands are one. -/
theorem and_ref (ins : Int) (ps : List (Int × Int)) (x y : Int) (hl : ps.length ≤ 1000000) :
    (makOk ps x y = true → makPs ps x y = refPs ps x y ∧ makLit ins ps x y = refLit ins ps x y ∧ (refPs ps x y).length ≤ 1000000) ∧ (makOk ps x y = false → 1000000 < (refPs ps x y).length) := by
  by_cases h1 : x = 0 ∨ x = turn y
  · have h1' : x = 0 ∨ (x / 2 = y / 2 ∧ x ≠ y) := h1.imp id (fun h => turn_iff.1 h)
    obtain ⟨e1, e2, e3⟩ := mak_no (ins := ins) (ps := ps) h1
    obtain ⟨f1, f2⟩ := ref_no (ins := ins) (ps := ps) h1'
    rw [e1, e2, e3, f1, f2]
    exact ⟨fun _ => ⟨rfl, rfl, hl⟩, fun h => by cases h⟩
  have h1' : ¬ (x = 0 ∨ (x / 2 = y / 2 ∧ x ≠ y)) := fun h => h1 (h.imp id (fun h => turn_iff.2 h))
  by_cases h2 : x = 1 ∨ x = y
  · obtain ⟨e1, e2, e3⟩ := mak_one (ins := ins) (ps := ps) h1 h2
    obtain ⟨f1, f2⟩ := ref_one (ins := ins) (ps := ps) h1' h2
    rw [e1, e2, e3, f1, f2]
    exact ⟨fun _ => ⟨rfl, rfl, hl⟩, fun h => by cases h⟩
  obtain ⟨e1, e2, e3⟩ := mak_add (ins := ins) (ps := ps) h1 h2
  rw [e1, e2, e3]
  by_cases h3 : 0 ≤ andAt ps ps.length (x, y)
  · obtain ⟨f1, f2⟩ := ref_at (ins := ins) (ps := ps) h1' h2 h3
    rw [f1, f2]
    refine ⟨fun _ => ⟨by unfold addPs; rw [if_pos h3], by unfold addLit; rw [if_pos h3], hl⟩, fun h => ?_⟩
    simp [addOk, h3] at h
  · obtain ⟨f1, f2⟩ := ref_new (ins := ins) (ps := ps) h1' h2 h3
    rw [f1, f2, List.length_append]
    refine ⟨fun h => ?_, fun h => ?_⟩
    · have h4 : ps.length < 1000000 := by simpa [addOk, h3] using h
      exact ⟨by unfold addPs; rw [if_neg h3, if_neg (by omega)], by unfold addLit; rw [if_neg h3, if_neg (by omega)], by simp; omega⟩
    · have h4 : ¬ ps.length < 1000000 := by simpa [addOk, h3] using h
      simp; omega

theorem bg_e : andE 2 [] 4 2 = 0 := by decide
theorem bg_l : outLit 2 [] 4 2 0 = 6 := by decide
theorem bg_i : outIns 2 0 = 2 := by decide
theorem bg_p : outPs [] 4 2 0 = [(2, 4)] := by decide
theorem bg_c : chkE 2 [(2, 4)] = 0 := by decide
theorem bg_v : evE 2 [(2, 4)] [true, true] [6, 7] = 0 := by decide
theorem bg_r : evL [(2, 4)] [true, true] [6, 7] 0 = [true, false] := by decide
theorem bg_w : WfP [(2, 4)] := fun i h => by
  match i, h with
  | 0, _ => exact ⟨⟨by simp, by simp⟩, ⟨by simp, by simp⟩⟩

end Go.Proofs.YtkinmangilbeeaaGreatDoor
