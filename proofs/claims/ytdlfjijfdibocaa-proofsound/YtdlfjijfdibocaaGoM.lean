/- Gates: the plain text: And. -/
import Derived.Test.YtdlfjijfdibocaaGmM
namespace Go.Proofs.Ytdlfjijfdibocaa
open Go.RowKit Go.Maps Go.WideMaps
set_option maxRecDepth 100000

theorem wpList_append_pairs {w : World} {ops : Array Oper} {rest : List Oper} {o : Oper} {a : Act} {Q : Exit → Act → World → Prop} (hgd : o.guard = none) (s x : Operand)
    (ho : o.op = .call { callee := .builtin .append, args := #[s, x], argTypes := #[37, 37] })
    (base : Nat) (v : Value) (u l : List (Int × Int)) (hs : a.eval s = v) (hown : w.ownsRow base 36 2 v u.length (flat u)) (p : Option Addr) (c : Nat) (hx : a.eval x = .slice p l.length c) (hB : PairsAt w p l) (hnil : p = none → c = 0)
    (hb : u.length + l.length ≤ 8796093022208) (hbase : base ≤ w.heap.size)
    (hK : ∀ v' w', w'.ownsRow base 36 2 v' (u ++ l).length (flat (u ++ l)) → w.grownBy w' v.ownBlock → wpList Try.prog ops Q rest (a.put o.dst v') w') : wpList Try.prog ops Q (o :: rest) a w := by
  obtain ⟨i0, hi, hz0, hz1, hz2⟩ := info_parts info55
  cases p with
  | none =>
    have h0 : l = [] := by
      cases l with
      | nil => rfl
      | cons a t => obtain ⟨b, off, h, _⟩ := hB (by simp); cases h
    subst h0
    obtain rfl := hnil rfl
    have hrun := run_append_owned_none (P := Try.prog) (w := w) base 37 o.type 36 i0 2 Try.underlying37 hi v u.length _ hown
    refine wpList_plain hgd fun K' hK' => ?_
    unfold Oper.wp
    simp only [List.length_nil] at hx
    simp [execOp, ho, resolve, invoke, builtin, hs, hx, hrun, Result.andThen]
    exact hK' _ _ (hK v w (by simpa using hown) ⟨rfl, rfl, rfl, Nat.le_refl _, fun _ _ _ => rfl⟩)
  | some ad =>
    refine wpList_append_own_wide w hgd s x 37 ho base 36 i0 (.agg #[.int .i64 0, .int .i64 0]) 2 16 Try.underlying37 hi hz0 hz1 hz2 rfl (by decide) v u.length _ hs hown ad l.length c (flat l) hx (flat_len l) (pairs_cells hB) (flat_cell l) (by unfold maxLen; omega) (by omega) hbase (fun v' w' a b _ => hK v' w' ?_ b)
    have : flat (u ++ l) = flat u ++ flat l := by simp [flat, List.flatMap_append]
    rw [this, List.length_append]
    exact a

def refLit (ins : Int) (ps : List (Int × Int)) (x y : Int) : Int := if x = 0 ∨ (x / 2 = y / 2 ∧ x ≠ y) then 0 else if x = 1 ∨ x = y then y else if 0 ≤ andAt ps ps.length (x, y) then 2 * (1 + ins + andAt ps ps.length (x, y)) else 2 * (1 + ins + ps.length)
def refPs (ps : List (Int × Int)) (x y : Int) : List (Int × Int) := if x = 0 ∨ (x / 2 = y / 2 ∧ x ≠ y) then ps else if x = 1 ∨ x = y then ps else if 0 ≤ andAt ps ps.length (x, y) then ps else ps ++ [(x, y)]

theorem ref_no {ins : Int} {ps : List (Int × Int)} {x y : Int} (h : x = 0 ∨ (x / 2 = y / 2 ∧ x ≠ y)) : refLit ins ps x y = 0 ∧ refPs ps x y = ps := by
  unfold refLit refPs; rw [if_pos h, if_pos h]; exact ⟨rfl, rfl⟩
theorem ref_one {ins : Int} {ps : List (Int × Int)} {x y : Int} (h : ¬ (x = 0 ∨ (x / 2 = y / 2 ∧ x ≠ y))) (h2 : x = 1 ∨ x = y) : refLit ins ps x y = y ∧ refPs ps x y = ps := by
  unfold refLit refPs; rw [if_neg h, if_neg h, if_pos h2, if_pos h2]; exact ⟨rfl, rfl⟩
theorem ref_at {ins : Int} {ps : List (Int × Int)} {x y : Int} (h : ¬ (x = 0 ∨ (x / 2 = y / 2 ∧ x ≠ y))) (h2 : ¬ (x = 1 ∨ x = y)) (h3 : 0 ≤ andAt ps ps.length (x, y)) : refLit ins ps x y = 2 * (1 + ins + andAt ps ps.length (x, y)) ∧ refPs ps x y = ps := by
  unfold refLit refPs; rw [if_neg h, if_neg h, if_neg h2, if_neg h2, if_pos h3, if_pos h3]; exact ⟨rfl, rfl⟩
theorem ref_new {ins : Int} {ps : List (Int × Int)} {x y : Int} (h : ¬ (x = 0 ∨ (x / 2 = y / 2 ∧ x ≠ y))) (h2 : ¬ (x = 1 ∨ x = y)) (h3 : ¬ 0 ≤ andAt ps ps.length (x, y)) : refLit ins ps x y = 2 * (1 + ins + ps.length) ∧ refPs ps x y = ps ++ [(x, y)] := by
  unfold refLit refPs; rw [if_neg h, if_neg h, if_neg h2, if_neg h2, if_neg h3, if_neg h3]; exact ⟨rfl, rfl⟩

def AndIs (w w' : World) (e : Ending) (p : Option Addr) (ps : List (Int × Int)) (ins : Int) (qs : List (Int × Int)) (n : Int) : Prop := ∃ pv cv, e = .returned (.tuple #[gval ins pv qs.length cv, .int .i64 n]) ∧ PairsAt w' pv qs ∧ Below w.heap.size w w' ∧ ((pv = p ∧ qs = ps) ∨ ∀ b off, pv = some ⟨b, off, none⟩ → w.heap.size ≤ b)

theorem pairs_far {w : World} {p : Option Addr} {ps : List (Int × Int)} {q : Addr} {u : Value} (h : PairsAt w p ps) (hne : ∀ b off, p = some ⟨b, off, none⟩ → 0 < ps.length → b ≠ q.block) : PairsAt (w.setCell q u) p ps := by
  intro h0
  obtain ⟨b, off, rfl, hc⟩ := h h0
  exact ⟨b, off, rfl, fun i hi => ⟨cell_set_far (hc i hi).1 (hne b off rfl h0), cell_set_far (hc i hi).2 (hne b off rfl h0)⟩⟩
theorem pairs_lt {w : World} {p : Option Addr} {ps : List (Int × Int)} (h : PairsAt w p ps) : ∀ b off, p = some ⟨b, off, none⟩ → 0 < ps.length → b < w.heap.size := by
  intro b off e h0
  obtain ⟨b', off', e', hc⟩ := h h0
  rw [e] at e'
  cases e'
  exact World.block_lt_of_cell? _ _ (hc 0 h0).1

theorem pairs_one {w : World} {a b : Int} : PairsAt (w.alloc (.cells #[.int .i64 a, .int .i64 b] 36)) (some ⟨w.heap.size, 0, none⟩) [(a, b)] := fun _ => ⟨w.heap.size, 0, rfl, fun i hi => by
  match i, hi with
  | 0, _ => simp [go_sem]⟩

theorem owns_pairsN {w : World} {base n : Nat} {v : Value} {ps : List (Int × Int)} (hn : ps.length = n) (h : w.ownsRow base 36 2 v n (flat ps)) : ∃ p cap, v = .slice p n cap ∧ PairsAt w p ps := by
  subst hn; exact owns_pairs h

/-- What AndOf lays first. -/
abbrev laid (w : World) (ins : Int) (p : Option Addr) (len cap : Nat) : World := (w.alloc (.cells #[.int .i64 ins, .slice p len cap] 39)).alloc (.cells #[.int .i64 0, .slice none 0 0] 39)

end Go.Proofs.Ytdlfjijfdibocaa

namespace Go.Proofs.Ytdlfjijfdibocaa
open Go.RowKit Go.Maps Go.WideMaps
set_option maxRecDepth 100000

theorem turn_iff {x y : Int} : x = turn y ↔ x / 2 = y / 2 ∧ x ≠ y := by
  unfold turn odd
  by_cases h : y % 2 = 1
  · have : (y % 2 == 1) = true := by simpa using h
    rw [this, if_pos rfl]; omega
  · have : (y % 2 == 1) = false := by simpa using h
    rw [this, if_neg (by decide)]; omega

/-- The two Ands are one. -/
theorem and_ref (ins : Int) (ps : List (Int × Int)) (x y : Int) (hl : ps.length ≤ 1000000) :
    (makOk ps x y = true → makPs ps x y = refPs ps x y ∧ makLit ins ps x y = refLit ins ps x y ∧ (refPs ps x y).length ≤ 1000000) ∧ (makOk ps x y = false → 1000000 < (refPs ps x y).length) := by
  by_cases h1 : x = 0 ∨ x = turn y
  · have h1' : x = 0 ∨ (x / 2 = y / 2 ∧ x ≠ y) := h1.imp id (fun h => turn_iff.1 h)
    obtain ⟨e1, e2, e3⟩ := mak_no (ins := ins) (ps := ps) h1
    obtain ⟨f1, f2⟩ := ref_no (ins := ins) (ps := ps) h1'
    rw [e1, e2, e3, f1, f2]
    exact ⟨fun _ => ⟨rfl, rfl, hl⟩, fun h => by cases h⟩
  have h1' : ¬ (x = 0 ∨ (x / 2 = y / 2 ∧ x ≠ y)) := fun h => h1 (h.imp id (fun h => turn_iff.2 h))
  by_cases h2 : x = 1 ∨ x = y
  · obtain ⟨e1, e2, e3⟩ := mak_one (ins := ins) (ps := ps) h1 h2
    obtain ⟨f1, f2⟩ := ref_one (ins := ins) (ps := ps) h1' h2
    rw [e1, e2, e3, f1, f2]
    exact ⟨fun _ => ⟨rfl, rfl, hl⟩, fun h => by cases h⟩
  obtain ⟨e1, e2, e3⟩ := mak_add (ins := ins) (ps := ps) h1 h2
  rw [e1, e2, e3]
  by_cases h3 : 0 ≤ andAt ps ps.length (x, y)
  · obtain ⟨f1, f2⟩ := ref_at (ins := ins) (ps := ps) h1' h2 h3
    rw [f1, f2]
    refine ⟨fun _ => ⟨by unfold addPs; rw [if_pos h3], by unfold addLit; rw [if_pos h3], hl⟩, fun h => ?_⟩
    simp [addOk, h3] at h
  · obtain ⟨f1, f2⟩ := ref_new (ins := ins) (ps := ps) h1' h2 h3
    rw [f1, f2, List.length_append]
    refine ⟨fun h => ?_, fun h => ?_⟩
    · have h4 : ps.length < 1000000 := by simpa [addOk, h3] using h
      exact ⟨by unfold addPs; rw [if_neg h3, if_neg (by omega)], by unfold addLit; rw [if_neg h3, if_neg (by omega)], by simp; omega⟩
    · have h4 : ¬ ps.length < 1000000 := by simpa [addOk, h3] using h
      simp; omega

theorem bg_e : andE 2 [] 4 2 = 0 := by decide
theorem bg_l : outLit 2 [] 4 2 0 = 6 := by decide
theorem bg_i : outIns 2 0 = 2 := by decide
theorem bg_p : outPs [] 4 2 0 = [(2, 4)] := by decide
theorem bg_c : chkE 2 [(2, 4)] = 0 := by decide
theorem bg_v : evE 2 [(2, 4)] [true, true] [6, 7] = 0 := by decide
theorem bg_r : evL [(2, 4)] [true, true] [6, 7] 0 = [true, false] := by decide
theorem bg_w : WfP [(2, 4)] := fun i h => by
  match i, h with
  | 0, _ => exact ⟨⟨by simp, by simp⟩, ⟨by simp, by simp⟩⟩

end Go.Proofs.Ytdlfjijfdibocaa
