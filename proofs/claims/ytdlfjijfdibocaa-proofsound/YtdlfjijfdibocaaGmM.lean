/- Gates: what nodes are. -/
import Derived.Test.YtdlfjijfdibocaaGkM
namespace Go.Proofs.Ytdlfjijfdibocaa
open Go.RowKit Go.Maps Go.WideMaps
set_option maxRecDepth 100000

theorem info4 : (Try.prog.info? 4).map (fun i => (i.zero, i.size, i.bytes)) = some (some (.bool false), 1, 1) := by kernel_rfl

theorem owns_bools {w : World} {base : Nat} {v : Value} {l : List Bool} (h : w.ownsRow base 4 1 v l.length (l.map Value.bool)) : ∃ p cap, v = .slice p l.length cap ∧ BoolsAt w p l := by
  have h3 := h
  obtain ⟨h1, h2⟩ := h
  rcases h2 with ⟨rfl, h0⟩ | ⟨g, cap, cur, rfl, hg, hh, hn, hm, hs, ht⟩
  · refine ⟨none, 0, by rw [h0], fun h => by omega⟩
  · refine ⟨_, cap, rfl, fun _ => ⟨g, 0, rfl, fun i hi => ?_⟩⟩
    have := h3.cellAt i (by omega)
    rw [Nat.zero_add, this, List.getElem?_map, List.getElem?_eq_getElem hi]
    rfl

theorem bools_cells {w : World} {l : List Bool} {ad : Addr} (h : BoolsAt w (some ad) l) : ∀ j u, (l.map Value.bool)[j]? = some u → w.cell? (ad.add j) = some u := by
  intro j u hj
  obtain ⟨hjl, hju⟩ := List.getElem?_eq_some_iff.1 hj
  have hjl' : j < l.length := by simpa using hjl
  obtain ⟨b, off, h, hc⟩ := h (by omega)
  cases h
  rw [Addr.add_lit, hc j hjl', ← hju]
  simp

theorem wpList_append_bools {w : World} {ops : Array Oper} {rest : List Oper} {o : Oper} {a : Act} {Q : Exit → Act → World → Prop} (hgd : o.guard = none) (s x : Operand)
    (ho : o.op = .call { callee := .builtin .append, args := #[s, x], argTypes := #[25, 25] })
    (base : Nat) (v : Value) (u l : List Bool) (hs : a.eval s = v) (hown : w.ownsRow base 4 1 v u.length (u.map Value.bool)) (p : Option Addr) (c : Nat) (hx : a.eval x = .slice p l.length c) (hB : BoolsAt w p l) (hnil : p = none → c = 0)
    (hb : u.length + l.length ≤ 70368744177664) (hbase : base ≤ w.heap.size)
    (hK : ∀ v' w', w'.ownsRow base 4 1 v' (u ++ l).length ((u ++ l).map Value.bool) → w.grownBy w' v.ownBlock → wpList Try.prog ops Q rest (a.put o.dst v') w') : wpList Try.prog ops Q (o :: rest) a w := by
  obtain ⟨i0, hi, hz0, hz1, hz2⟩ := info_parts info4
  cases p with
  | none =>
    have h0 : l = [] := by
      cases l with
      | nil => rfl
      | cons a t => obtain ⟨b, off, h, _⟩ := hB (by simp); cases h
    subst h0
    obtain rfl := hnil rfl
    have hrun := run_append_owned_none (P := Try.prog) (w := w) base 25 o.type 4 i0 1 Try.underlying25 hi v u.length _ hown
    refine wpList_plain hgd fun K' hK' => ?_
    unfold Oper.wp
    simp only [List.length_nil] at hx
    simp [execOp, ho, resolve, invoke, builtin, hs, hx, hrun, Result.andThen]
    exact hK' _ _ (hK v w (by simpa using hown) ⟨rfl, rfl, rfl, Nat.le_refl _, fun _ _ _ => rfl⟩)
  | some ad =>
    refine wpList_append_own w hgd s x 25 ho base 4 i0 (.bool false) 1 1 Try.underlying25 hi hz0 hz1 hz2 rfl (by decide) v u.length _ hs hown ad l.length c (l.map Value.bool) hx (by simp) (bools_cells hB) ?_ (by unfold maxLen; omega) (by omega) hbase (fun v' w' a b _ => hK v' w' (by simpa using a) b)
    intro u hu
    obtain ⟨x, _, rfl⟩ := List.mem_map.1 hu
    rfl

theorem bools_one {w : World} (x : Bool) : BoolsAt (w.alloc (.cells #[.bool x] 4)) (some ⟨w.heap.size, 0, none⟩) [x] := fun _ => ⟨w.heap.size, 0, rfl, fun i hi => by
  match i, hi with
  | 0, _ => simp [go_sem]⟩

/-- What the first nodes are. -/
def nodesV (bs : List Bool) (ps : List (Int × Int)) : Nat → List Bool
  | 0 => false :: bs
  | k + 1 => nodesV bs ps k ++ [match ps[k]? with | some p => litV (nodesV bs ps k) p.1 && litV (nodesV bs ps k) p.2 | none => false]
theorem nodesV_succ {bs : List Bool} {ps : List (Int × Int)} {k : Nat} (h : k < ps.length) : nodesV bs ps (k + 1) = nodesV bs ps k ++ [litV (nodesV bs ps k) ps[k].1 && litV (nodesV bs ps k) ps[k].2] := by
  simp [nodesV, List.getElem?_eq_getElem h]
theorem nodesV_len (bs : List Bool) (ps : List (Int × Int)) (k : Nat) : (nodesV bs ps k).length = 1 + bs.length + k := by
  induction k with
  | zero => simp [nodesV]; omega
  | succ k ih => simp [nodesV, ih]; omega

theorem make_bools (N : Nat) (hN : 1 ≤ N) (h2 : N ≤ 2000000) : ∃ CZ : Array Value, (∀ w : World, (w.alloc (.cells CZ 4)).ownsRow w.heap.size 4 1 (.slice (some ⟨w.heap.size, 0, none⟩) 1 N) 1 [.bool false]) ∧
    ∀ w : World, (Instr.makeSlice 25 (.int .i64 1) (.int .i64 (N : Int))).run Try.prog w = .ok (.slice (some ⟨w.heap.size, 0, none⟩) 1 N) (w.alloc (.cells CZ 4)) := by
  obtain ⟨i0, hi, hz0, hz1, hz2⟩ := info_parts info4
  refine ⟨madeCells #[.bool false] N, fun w => ⟨rfl, .inr ⟨w.heap.size, N, _, rfl, Nat.le_refl _, heap_alloc_new w _, hN, by unfold maxLen; omega, by rw [size_madeCells]; omega, ?_⟩⟩, fun w => ?_⟩
  · rw [toList_madeCells_one]
    cases N with
    | zero => omega
    | succ n => simp [List.replicate_succ]
  · have h := run_makeSlice (P := Try.prog) w 25 4 i0 (.bool false) Try.underlying25 hi hz0 .i64 .i64 1 (N : Int) (by omega) (by omega) (by rw [hz1]; simp; omega) (by rw [hz2]; omega) (by omega)
    rw [hz1, Nat.mul_one, Int.toNat_natCast] at h
    exact h

theorem stand_bd {a b n : Int} (h : standB a b n = true) : 0 ≤ a ∧ a < 2 * n ∧ 0 ≤ b ∧ b < 2 * n := by
  simp [standB] at h
  omega

end Go.Proofs.Ytdlfjijfdibocaa

namespace Go.Proofs.Ytdlfjijfdibocaa
open Go.RowKit Go.Maps Go.WideMaps
set_option maxRecDepth 100000

/-- A row of bools in memory. -/
def BRow (w : World) (g : Nat) (bs : List Bool) : Prop := ∀ (j : Nat) (h : j < bs.length), w.cell? ⟨g, j, none⟩ = some (.bool bs[j]) ∧ w.frozen? ⟨g, j, none⟩ = false
theorem BRow.later {w w1 : World} {g : Nat} {bs : List Bool} (h : BRow w g bs) (hb : Below w.heap.size w w1) : BRow w1 g bs := fun j hj =>
  ⟨cell_later hb (h j hj).1, by rw [hb.frozen (World.block_lt_of_cell? _ _ (h j hj).1)]; exact (h j hj).2⟩
theorem BRow.set {w : World} {g : Nat} {bs : List Bool} (h : BRow w g bs) (k : Nat) (b : Bool) : BRow (w.setCell ⟨g, k, none⟩ (.bool b)) g (bs.set k b) := by
  intro j hj
  rw [List.length_set] at hj
  refine ⟨?_, by rw [World.frozen?_setCell]; exact (h j hj).2⟩
  by_cases e : k = j
  · subst e
    rw [World.cell?_setCell_same w _ _ (h k hj).1]
    simp
  · rw [World.cell?_setCell_other w _ _ _ (by simp), (h j hj).1]
    rw [List.getElem_set_ne e]
theorem brow_bools {w : World} {g : Nat} {bs : List Bool} (h : BRow w g bs) : BoolsAt w (some ⟨g, 0, none⟩) bs := fun _ => ⟨g, 0, rfl, fun i hi => by rw [Nat.zero_add]; exact (h i hi).1⟩

theorem make_row (n : Nat) (hn : n ≤ 17592186044416) (w : World) : ∃ w', (Instr.makeSlice 25 (.int .i64 (n : Int)) (.int .i64 (n : Int))).run Try.prog w = .ok (.slice (some ⟨w.heap.size, 0, none⟩) n n) w' ∧ BRow w' w.heap.size (List.replicate n false) ∧ Below w.heap.size w w' ∧ w.heap.size < w'.heap.size := by
  obtain ⟨i0, hi, hz0, hz1, hz2⟩ := info_parts info4
  obtain ⟨w', h1, h2, h3⟩ := run_make_full (P := Try.prog) w w.heap.size 25 4 i0 (.bool false) 1 Try.underlying25 hi hz0 hz1 .i64 .i64 n (by rw [hz2]; omega) (by unfold maxLen; omega) (Nat.le_refl _)
  refine ⟨w', h1, fun j hj => ?_, ⟨h3.os, h3.tape, h3.output, h3.size, fun k hk => h3.block k hk (by simp)⟩, (h2.lt w.heap.size rfl).2⟩
  have hj' : j < n := by simpa using hj
  refine ⟨?_, h2.frozenAt j⟩
  rw [h2.cellAt j (by omega)]
  simp [toList_madeCells_one, hj', Value.cells]

/-- What Eval says. -/
def evE (ins : Int) (ps : List (Int × Int)) (bs : List Bool) (ls : List Int) : Int :=
  if chkE ins ps ≠ 0 then chkE ins ps else if ls.any (noLit (2 * (1 + ins + ps.length))) = true then 5 else if (bs.length : Int) ≠ ins then 1 else 0
def evL (ps : List (Int × Int)) (bs : List Bool) (ls : List Int) (e : Int) : List Bool := if e = 0 then ls.map (litV (nodesV bs ps ps.length)) else []

/-- Some of them done. -/
def curB (f : Int → Bool) (ls : List Int) (k : Nat) : List Bool := (ls.take k).map f ++ List.replicate (ls.length - k) false
theorem curB_zero (f : Int → Bool) (ls : List Int) : curB f ls 0 = List.replicate ls.length false := by simp [curB]
theorem curB_all (f : Int → Bool) (ls : List Int) : curB f ls ls.length = ls.map f := by simp [curB]
theorem curB_len (f : Int → Bool) (ls : List Int) (k : Nat) (h : k ≤ ls.length) : (curB f ls k).length = ls.length := by simp [curB]; omega
theorem curB_set (f : Int → Bool) (ls : List Int) (k : Nat) (h : k < ls.length) : (curB f ls k).set k (f ls[k]) = curB f ls (k + 1) := by
  unfold curB
  rw [List.take_succ_eq_append_getElem h, List.map_append, List.set_append_right _ _ (by simp; omega)]
  have e : ls.length - k = (ls.length - (k + 1)) + 1 := by omega
  have e2 : k - ((ls.take k).map f).length = 0 := by simp; omega
  rw [e, e2, List.replicate_succ, List.set_cons_zero]
  simp

end Go.Proofs.Ytdlfjijfdibocaa
