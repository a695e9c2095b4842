/- GatesEvals: the walk. -/
import Derived.Test.YtdlfjijfdibocaaGoM
import Derived.Test.YtdlfjijfdibocaaGeM
import Derived.Test.YtdlfjijfdibocaaGs
namespace Go.Proofs.Ytdlfjijfdibocaa
open Go.RowKit Go.Maps Go.WideMaps
set_option maxRecDepth 100000

theorem lits_any (e : Int) (ls : List Int) : ls.all (isLit e) = !ls.any (noLit e) := by
  induction ls with
  | nil => rfl
  | cons a l ih => simp only [List.all_cons, List.any_cons, ih, isLit]; cases noLit e a <;> simp
theorem nil_bools {w : World} {p : Option Addr} : BoolsAt w p [] := fun h => by simp at h
theorem dec_self (l : List Bool) : decide (l = l) = true := by simp

end Go.Proofs.Ytdlfjijfdibocaa

namespace Go.Proofs.Ytdlfjijfdibocaa
open Go.RowKit Go.Maps Go.WideMaps
set_option maxRecDepth 100000

theorem wfp_nil : WfP [] := fun i h => by simp at h
theorem nil_pairs {w : World} {p : Option Addr} : PairsAt w p [] := fun h => by simp at h
theorem sameG_self (i : Int) (ps : List (Int × Int)) : sameG i i ps ps = true := by simp [sameG]

theorem set2_far {w : World} {B : Nat} {u1 u2 x : Value} {q : Addr} (h : w.cell? q = some x) (hne : q.block ≠ B) : ((w.setCell ⟨B, 0, none⟩ u1).setCell ⟨B, 1, none⟩ u2).cell? q = some x := cell_set_far (cell_set_far h hne) hne
theorem set2_at0 {w : World} {B : Nat} {u1 u2 x : Value} (h : w.cell? ⟨B, 0, none⟩ = some x) : ((w.setCell ⟨B, 0, none⟩ u1).setCell ⟨B, 1, none⟩ u2).cell? ⟨B, 0, none⟩ = some u1 := by
  rw [World.cell?_setCell_other _ _ _ _ (by simp)]; exact World.cell?_setCell_same w _ _ h
theorem set2_at1 {w : World} {B : Nat} {u1 u2 x : Value} (h : w.cell? ⟨B, 1, none⟩ = some x) : ((w.setCell ⟨B, 0, none⟩ u1).setCell ⟨B, 1, none⟩ u2).cell? ⟨B, 1, none⟩ = some u2 := by
  refine World.cell?_setCell_same _ _ _ (u := x) ?_
  rw [World.cell?_setCell_other w _ _ _ (by simp)]; exact h
theorem set2_below {w0 w : World} {B : Nat} {u1 u2 : Value} (h : Below w0.heap.size w0 w) (hB : w0.heap.size ≤ B) : Below w0.heap.size w0 ((w.setCell ⟨B, 0, none⟩ u1).setCell ⟨B, 1, none⟩ u2) := (h.setCell hB u1).setCell hB u2
theorem wf_ref {ps : List (Int × Int)} (h : WfP ps) (x y : Int) (hx : Wf x) (hy : Wf y) : WfP (refPs ps x y) := by
  unfold refPs
  split
  · exact h
  split
  · exact h
  split
  · exact h
  intro i hi
  rw [List.length_append] at hi
  by_cases e : i < ps.length
  · rw [List.getElem_append_left e]; exact h i e
  · rw [List.getElem_append_right (by omega)]
    simp at hi
    obtain rfl : i = ps.length := by omega
    simp
    exact ⟨hx, hy⟩

end Go.Proofs.Ytdlfjijfdibocaa

namespace Go.Proofs.Ytdlfjijfdibocaa
open Go.RowKit Go.Maps Go.WideMaps
set_option maxRecDepth 100000

theorem drewN_add (w : World) (n m : Nat) : (w.drewN n).drewN m = w.drewN (n + m) := by simp

end Go.Proofs.Ytdlfjijfdibocaa

namespace Go.Proofs.Ytdlfjijfdibocaa
open Go.RowKit Go.Maps Go.WideMaps
set_option maxRecDepth 100000

theorem info3 : (Try.prog.info? 3).map (fun i => (i.zero, i.size, i.bytes)) = some (some (.int .i64 0), 1, 8) := by kernel_rfl
theorem owns_ints {w : World} {base : Nat} {v : Value} {l : List Int} (h : w.ownsRow base 3 1 v l.length (l.map (Value.int .i64))) : ∃ p cap, v = .slice p l.length cap ∧ IntsAt w p l ∧ (p = none → cap = 0) := by
  have h3 := h
  obtain ⟨h1, h2⟩ := h
  rcases h2 with ⟨rfl, h0⟩ | ⟨g, cap, cur, rfl, hg, hh, hn, hm, hs, ht⟩
  · exact ⟨none, 0, by rw [h0], fun h => by omega, fun _ => rfl⟩
  · refine ⟨_, cap, rfl, fun _ => ⟨g, 0, rfl, fun i hi => ?_⟩, fun h => by cases h⟩
    have := h3.cellAt i (by omega)
    rw [Nat.zero_add, this, List.getElem?_map, List.getElem?_eq_getElem hi]
    rfl
theorem ints_cells {w : World} {l : List Int} {ad : Addr} (h : IntsAt w (some ad) l) : ∀ j u, (l.map (Value.int .i64))[j]? = some u → w.cell? (ad.add j) = some u := by
  intro j u hj
  obtain ⟨hjl, hju⟩ := List.getElem?_eq_some_iff.1 hj
  have hjl' : j < l.length := by simpa using hjl
  obtain ⟨b, off, h, hc⟩ := h (by omega)
  cases h
  rw [Addr.add_lit, hc j hjl', ← hju]
  simp

theorem wp_append_ints {w : World} {o : Oper} {a : Act} {K : Act → World → Prop} {Q : Exit → Act → World → Prop} (s x : Operand)
    (ho : o.op = .call { callee := .builtin .append, args := #[s, x], argTypes := #[32, 32] })
    (base : Nat) (v : Value) (u l : List Int) (hs : a.eval s = v) (hown : w.ownsRow base 3 1 v u.length (u.map (Value.int .i64))) (p : Option Addr) (c : Nat) (hx : a.eval x = .slice p l.length c) (hB : IntsAt w p l) (hnil : p = none → c = 0)
    (hb : u.length + l.length ≤ 17592186044416) (hbase : base ≤ w.heap.size)
    (hK : ∀ v' w', w'.ownsRow base 3 1 v' (u ++ l).length ((u ++ l).map (Value.int .i64)) → w.grownBy w' v.ownBlock → K (a.put o.dst v') w') : o.wp Try.prog a w K Q := by
  obtain ⟨i0, hi, hz0, hz1, hz2⟩ := info_parts info3
  cases p with
  | none =>
    have h0 : l = [] := by
      cases l with
      | nil => rfl
      | cons a t => obtain ⟨b, off, h, _⟩ := hB (by simp); cases h
    subst h0
    obtain rfl := hnil rfl
    have hrun := run_append_owned_none (P := Try.prog) (w := w) base 32 o.type 3 i0 1 Try.underlying32 hi v u.length _ hown
    unfold Oper.wp
    simp only [List.length_nil] at hx
    simp [execOp, ho, resolve, invoke, builtin, hs, hx, hrun, Result.andThen]
    exact hK v w (by simpa using hown) ⟨rfl, rfl, rfl, Nat.le_refl _, fun _ _ _ => rfl⟩
  | some ad =>
    refine wp_append_own w s x 32 ho base 3 i0 (.int .i64 0) 1 8 Try.underlying32 hi hz0 hz1 hz2 rfl (by decide) v u.length _ hs hown ad l.length c (l.map (Value.int .i64)) hx (by simp) (ints_cells hB) ?_ (by unfold maxLen; omega) (by omega) hbase (fun v' w' a b _ => hK v' w' (by simpa using a) b)
    intro u hu
    obtain ⟨x, _, rfl⟩ := List.mem_map.1 hu
    rfl

theorem wpList_append_ints {w : World} {ops : Array Oper} {rest : List Oper} {o : Oper} {a : Act} {Q : Exit → Act → World → Prop} (hgd : o.guard = none) (s x : Operand)
    (ho : o.op = .call { callee := .builtin .append, args := #[s, x], argTypes := #[32, 32] })
    (base : Nat) (v : Value) (u l : List Int) (hs : a.eval s = v) (hown : w.ownsRow base 3 1 v u.length (u.map (Value.int .i64))) (p : Option Addr) (c : Nat) (hx : a.eval x = .slice p l.length c) (hB : IntsAt w p l) (hnil : p = none → c = 0)
    (hb : u.length + l.length ≤ 17592186044416) (hbase : base ≤ w.heap.size)
    (hK : ∀ v' w', w'.ownsRow base 3 1 v' (u ++ l).length ((u ++ l).map (Value.int .i64)) → w.grownBy w' v.ownBlock → wpList Try.prog ops Q rest (a.put o.dst v') w') : wpList Try.prog ops Q (o :: rest) a w :=
  wpList_plain hgd fun _ hK' => wp_append_ints s x ho base v u l hs hown p c hx hB hnil hb hbase fun v' w' h1 h2 => hK' _ _ (hK v' w' h1 h2)

theorem step_append_ints {w : World} {ops : Array Oper} {o : Oper} {a : Act} {K : Act → World → Prop} {Q : Exit → Act → World → Prop} {E : Prop} (hgd : o.guard = none) (s x : Operand)
    (ho : o.op = .call { callee := .builtin .append, args := #[s, x], argTypes := #[32, 32] })
    (base : Nat) (v : Value) (u l : List Int) (hs : a.eval s = v) (hown : w.ownsRow base 3 1 v u.length (u.map (Value.int .i64))) (p : Option Addr) (c : Nat) (hx : a.eval x = .slice p l.length c) (hB : IntsAt w p l) (hnil : p = none → c = 0)
    (hb : u.length + l.length ≤ 17592186044416) (hbase : base ≤ w.heap.size)
    (hK : ∀ v' w', w'.ownsRow base 3 1 v' (u ++ l).length ((u ++ l).map (Value.int .i64)) → w.grownBy w' v.ownBlock → K (a.put o.dst v') w') :
    if Region.wanted o (yielded ops a.tmps) = true then Oper.wp Try.prog o a w K Q else E := by
  have hw : Region.wanted o (yielded ops a.tmps) = true := by simp [Region.wanted, hgd]
  rw [if_pos hw]
  exact wp_append_ints s x ho base v u l hs hown p c hx hB hnil hb hbase hK

theorem ints_one {w : World} (x : Int) : IntsAt (w.alloc (.cells #[.int .i64 x] 3)) (some ⟨w.heap.size, 0, none⟩) [x] := fun _ => ⟨w.heap.size, 0, rfl, fun i hi => by
  match i, hi with
  | 0, _ => simp [go_sem]⟩

theorem owns_intsN {w : World} {base n : Nat} {v : Value} {l : List Int} (hn : l.length = n) (h : w.ownsRow base 3 1 v n (l.map (Value.int .i64))) : ∃ p cap, v = .slice p n cap ∧ IntsAt w p l ∧ (p = none → cap = 0) := by
  subst hn; exact owns_ints h
theorem IntsAt.grown {w w1 : World} {row : Option Nat} {b : Nat} {l : List Int} (h : IntsAt w (some ⟨b, 0, none⟩) l) (hg : w.grownBy w1 row) (hne : some b ≠ row) : IntsAt w1 (some ⟨b, 0, none⟩) l := by
  intro h0
  obtain ⟨b', o', e, hc⟩ := h h0
  cases e
  exact ⟨b, 0, rfl, fun i hi => hg.cell (hc i hi) hne⟩

/-- The first numbers. -/
def upto (k : Nat) : List Int := (List.range k).map (fun i : Nat => (i : Int))
theorem upto_succ (k : Nat) : upto (k + 1) = upto k ++ [(k : Int)] := by simp [upto, List.range_succ]
theorem upto_len (k : Nat) : (upto k).length = k := by simp [upto]
theorem upto_no (k : Nat) (e : Int) (h : (k : Int) ≤ e) : (upto k).any (noLit e) = false := by
  rw [List.any_eq_false]
  intro x hx
  obtain ⟨i, hi, rfl⟩ := List.mem_map.1 hx
  have := List.mem_range.1 hi
  simp [noLit]
  omega

end Go.Proofs.Ytdlfjijfdibocaa
