/- Gates: And. -/
import Derived.Test.YtabnimgpednhjabGreatGi
namespace Go.Proofs.YtabnimgpednhjabGreat.Gg
open Go.RowKit Go.Maps Go.WideMaps
set_option maxRecDepth 100000

/-- The And of two literals, the lesser one first: its literal, whether it could be made, and the graph's Ands then. -/
def makLit (ins : Int) (ps : List (Int × Int)) (a b : Int) : Int := if a = 0 ∨ a = turn b then 0 else if a = 1 ∨ a = b then b else addLit ins ps (a, b)
def makOk (ps : List (Int × Int)) (a b : Int) : Bool := if a = 0 ∨ a = turn b then true else if a = 1 ∨ a = b then true else addOk ps (a, b)
def makPs (ps : List (Int × Int)) (a b : Int) : List (Int × Int) := if a = 0 ∨ a = turn b then ps else if a = 1 ∨ a = b then ps else addPs ps (a, b)

theorem mak_no {ins : Int} {ps : List (Int × Int)} {a b : Int} (h : a = 0 ∨ a = turn b) : makLit ins ps a b = 0 ∧ makOk ps a b = true ∧ makPs ps a b = ps := by
  unfold makLit makOk makPs; rw [if_pos h, if_pos h, if_pos h]; exact ⟨rfl, rfl, rfl⟩
theorem mak_one {ins : Int} {ps : List (Int × Int)} {a b : Int} (h : ¬ (a = 0 ∨ a = turn b)) (h2 : a = 1 ∨ a = b) : makLit ins ps a b = b ∧ makOk ps a b = true ∧ makPs ps a b = ps := by
  unfold makLit makOk makPs; rw [if_neg h, if_neg h, if_neg h, if_pos h2, if_pos h2, if_pos h2]; exact ⟨rfl, rfl, rfl⟩
theorem mak_add {ins : Int} {ps : List (Int × Int)} {a b : Int} (h : ¬ (a = 0 ∨ a = turn b)) (h2 : ¬ (a = 1 ∨ a = b)) : makLit ins ps a b = addLit ins ps (a, b) ∧ makOk ps a b = addOk ps (a, b) ∧ makPs ps a b = addPs ps (a, b) := by
  unfold makLit makOk makPs; rw [if_neg h, if_neg h, if_neg h, if_neg h2, if_neg h2, if_neg h2]; exact ⟨rfl, rfl, rfl⟩

theorem turn_ne (x : Int) : x ≠ turn x := by unfold turn; split <;> omega

set_option maxRecDepth 100000 in
set_option maxHeartbeats 4000000 in
theorem makerAnd_lt (ins : Int) (ps : List (Int × Int)) (hl : ps.length ≤ 1000000) (h0 : 0 ≤ ins) (h1 : ins ≤ 1000) (x y a b : Int) (hxy : x < y) (hx : 0 ≤ x) (hy : y ≤ 10000000) (hab : (a = x ∧ b = y) ∨ (a = y ∧ b = x)) (hd : dupN ps ps.length = false)
    (w : World) (base M B : Nat) (v : Value) (D : DataW Unit) (hbs : base ≤ w.heap.size) (hmk : Mk w base M B v ins ps) (hown : w.ownsMap Tryz.prog 81 (plainElem Tryz.prog 3) B ps.length D) (hmap : MapIs ins ps ps.length D) :
    Calls Tryz.prog 120 #[.pointer (some ⟨M, 0, none⟩), .int .i64 a, .int .i64 b] w fun e w' => ∃ v', e = .returned (.tuple #[.int .i64 (makLit ins ps x y), .bool (makOk ps x y)]) ∧
      Mk w' base M B v' ins (makPs ps x y) ∧ Below base w w' := by
  have HCL := hide (add_any ins ps hl h0 h1 x y ⟨by omega, by omega⟩ ⟨by omega, by omega⟩ hd w base M B v D hbs hmk hown hmap)
  have HMK := hide hmk
  have HT := hide (fun w => turn_any y (by omega) hy w)
  clear hmk hown hmap hd
  by_cases hz : x = 0
  · have HE := hide (mak_no (ins := ins) (ps := ps) (Or.inl hz : x = 0 ∨ x = turn y))
    have hz' : (x == 0) = true := by simpa using hz
    clear HCL hz
    rcases hab with ⟨rfl, rfl⟩ | ⟨rfl, rfl⟩
    all_goals
      go_enter Tryz.func120, Tryz.ntmps120
      go_wp2
      go_ret2
      exact ⟨v, by rw [HE.out.1, HE.out.2.1]; rfl, by rw [HE.out.2.2]; exact HMK.out, Below.refl _ _⟩
  have hz' : (x == 0) = false := by simpa using hz
  by_cases ht : x = turn y
  · have HE := hide (mak_no (ins := ins) (ps := ps) (Or.inr ht : x = 0 ∨ x = turn y))
    have ht' : (x == turn y) = true := by simpa using ht
    clear HCL hz ht
    generalize turn y = ty at *
    rcases hab with ⟨rfl, rfl⟩ | ⟨rfl, rfl⟩
    all_goals
      go_enter Tryz.func120, Tryz.ntmps120
      go_wp2_with (go_at_call 119; refine (HT.out _).mono ?_; rintro e w' ⟨rfl, rfl⟩)
      go_ret2
      exact ⟨v, by rw [HE.out.1, HE.out.2.1]; rfl, by rw [HE.out.2.2]; exact HMK.out, Below.refl _ _⟩
  have ht' : (x == turn y) = false := by simpa using ht
  have hno : ¬ (x = 0 ∨ x = turn y) := fun h => h.elim hz ht
  have hne : (x == y) = false := by simp; omega
  by_cases ho : x = 1
  · have HE := hide (mak_one (ins := ins) (ps := ps) hno (Or.inl ho : x = 1 ∨ x = y))
    have ho' : (x == 1) = true := by simpa using ho
    clear HCL hz ht ho hno
    generalize turn y = ty at *
    rcases hab with ⟨rfl, rfl⟩ | ⟨rfl, rfl⟩
    all_goals
      go_enter Tryz.func120, Tryz.ntmps120
      go_wp2_with (go_at_call 119; refine (HT.out _).mono ?_; rintro e w' ⟨rfl, rfl⟩)
      go_ret2
      exact ⟨v, by rw [HE.out.1, HE.out.2.1]; rfl, by rw [HE.out.2.2]; exact HMK.out, Below.refl _ _⟩
  · have HE := hide (mak_add (ins := ins) (ps := ps) hno (by omega : ¬ (x = 1 ∨ x = y)))
    have ho' : (x == 1) = false := by simpa using ho
    clear hz ht ho hno
    generalize turn y = ty at *
    rcases hab with ⟨rfl, rfl⟩ | ⟨rfl, rfl⟩
    all_goals
      go_enter Tryz.func120, Tryz.ntmps120
      go_wp2_with (first | (go_at_call 119; refine (HT.out _).mono ?_; rintro e w' ⟨rfl, rfl⟩) | fail)
      refine HCL.out.mono ?_
      rintro e w1 ⟨v', rfl, hmk1, hb1⟩
      have HR := hide (And.intro hmk1 hb1)
      clear hmk1 hb1
      go_wp2
      go_ret2
      exact ⟨v', by rw [HE.out.1, HE.out.2.1]; rfl, by rw [HE.out.2.2]; exact HR.out.1, HR.out.2⟩

set_option maxRecDepth 100000 in
set_option maxHeartbeats 4000000 in
theorem makerAnd_eq (ins : Int) (ps : List (Int × Int)) (x : Int) (hx : 0 ≤ x) (hy : x ≤ 10000000)
    (w : World) (base M B : Nat) (v : Value) (hmk : Mk w base M B v ins ps) :
    Calls Tryz.prog 120 #[.pointer (some ⟨M, 0, none⟩), .int .i64 x, .int .i64 x] w fun e w' => ∃ v', e = .returned (.tuple #[.int .i64 (makLit ins ps x x), .bool (makOk ps x x)]) ∧
      Mk w' base M B v' ins (makPs ps x x) ∧ Below base w w' := by
  have HMK := hide hmk
  have HT := hide (fun w => turn_any x (by omega) hy w)
  have hne := turn_ne x
  clear hmk
  by_cases hz : x = 0
  · have HE := hide (mak_no (ins := ins) (ps := ps) (Or.inl hz : x = 0 ∨ x = turn x))
    have hz' : (x == 0) = true := by simpa using hz
    clear hz hne
    go_enter Tryz.func120, Tryz.ntmps120
    go_wp2
    go_ret2
    exact ⟨v, by rw [HE.out.1, HE.out.2.1]; rfl, by rw [HE.out.2.2]; exact HMK.out, Below.refl _ _⟩
  have hz' : (x == 0) = false := by simpa using hz
  have ht' : (x == turn x) = false := by simpa using hne
  have hno : ¬ (x = 0 ∨ x = turn x) := fun h => h.elim hz hne
  have HE := hide (mak_one (ins := ins) (ps := ps) hno (Or.inr rfl : x = 1 ∨ x = x))
  clear hne hz hno
  generalize turn x = ty at *
  cases ho' : (x == 1)
  all_goals
    go_enter Tryz.func120, Tryz.ntmps120
    go_wp2_with (go_at_call 119; refine (HT.out _).mono ?_; rintro e w' ⟨rfl, rfl⟩)
    go_ret2
    exact ⟨v, by rw [HE.out.1, HE.out.2.1]; rfl, by rw [HE.out.2.2]; exact HMK.out, Below.refl _ _⟩

def andLit (ins : Int) (ps : List (Int × Int)) (a b : Int) : Int := makLit ins ps (min a b) (max a b)
def andOk (ps : List (Int × Int)) (a b : Int) : Bool := makOk ps (min a b) (max a b)
def andPs (ps : List (Int × Int)) (a b : Int) : List (Int × Int) := makPs ps (min a b) (max a b)

theorem makerAnd_any (ins : Int) (ps : List (Int × Int)) (hl : ps.length ≤ 1000000) (h0 : 0 ≤ ins) (h1 : ins ≤ 1000) (a b : Int) (ha : 0 ≤ a) (ha2 : a ≤ 10000000) (hb : 0 ≤ b) (hb2 : b ≤ 10000000) (hd : dupN ps ps.length = false)
    (w : World) (base M B : Nat) (v : Value) (D : DataW Unit) (hbs : base ≤ w.heap.size) (hmk : Mk w base M B v ins ps) (hown : w.ownsMap Tryz.prog 81 (plainElem Tryz.prog 3) B ps.length D) (hmap : MapIs ins ps ps.length D) :
    Calls Tryz.prog 120 #[.pointer (some ⟨M, 0, none⟩), .int .i64 a, .int .i64 b] w fun e w' => ∃ v', e = .returned (.tuple #[.int .i64 (andLit ins ps a b), .bool (andOk ps a b)]) ∧
      Mk w' base M B v' ins (andPs ps a b) ∧ Below base w w' := by
  unfold andLit andOk andPs
  rcases Int.lt_trichotomy a b with h | h | h
  · rw [Int.min_eq_left (by omega), Int.max_eq_right (by omega)]
    exact makerAnd_lt ins ps hl h0 h1 a b a b h ha hb2 (Or.inl ⟨rfl, rfl⟩) hd w base M B v D hbs hmk hown hmap
  · subst h
    rw [Int.min_eq_left (by omega), Int.max_eq_right (by omega)]
    exact makerAnd_eq ins ps a ha ha2 w base M B v hmk
  · rw [Int.min_eq_right (by omega), Int.max_eq_left (by omega)]
    exact makerAnd_lt ins ps hl h0 h1 b a a b h hb ha2 (Or.inr ⟨rfl, rfl⟩) hd w base M B v D hbs hmk hown hmap

end Go.Proofs.YtabnimgpednhjabGreat.Gg

namespace Go.Proofs.YtabnimgpednhjabGreat.Gg
open Go.RowKit Go.Maps Go.WideMaps
set_option maxRecDepth 100000

theorem info4 : (Tryz.prog.info? 4).map (fun i => (i.zero, i.size, i.bytes)) = some (some (.bool false), 1, 1) := by kernel_rfl

theorem owns_bools {w : World} {base : Nat} {v : Value} {l : List Bool} (h : w.ownsRow base 4 1 v l.length (l.map Value.bool)) : ∃ p cap, v = .slice p l.length cap ∧ BoolsAt w p l := by
  have h3 := h
  obtain ⟨h1, h2⟩ := h
  rcases h2 with ⟨rfl, h0⟩ | ⟨g, cap, cur, rfl, hg, hh, hn, hm, hs, ht⟩
  · refine ⟨none, 0, by rw [h0], fun h => by omega⟩
  · refine ⟨_, cap, rfl, fun _ => ⟨g, 0, rfl, fun i hi => ?_⟩⟩
    have := h3.cellAt i (by omega)
    rw [Nat.zero_add, this, List.getElem?_map, List.getElem?_eq_getElem hi]
    rfl

theorem bools_cells {w : World} {l : List Bool} {ad : Addr} (h : BoolsAt w (some ad) l) : ∀ j u, (l.map Value.bool)[j]? = some u → w.cell? (ad.add j) = some u := by
  intro j u hj
  obtain ⟨hjl, hju⟩ := List.getElem?_eq_some_iff.1 hj
  have hjl' : j < l.length := by simpa using hjl
  obtain ⟨b, off, h, hc⟩ := h (by omega)
  cases h
  rw [Addr.add_lit, hc j hjl', ← hju]
  simp

theorem wpList_append_bools {w : World} {ops : Array Oper} {rest : List Oper} {o : Oper} {a : Act} {Q : Exit → Act → World → Prop} (hgd : o.guard = none) (s x : Operand)
    (ho : o.op = .call { callee := .builtin .append, args := #[s, x], argTypes := #[44, 44] })
    (base : Nat) (v : Value) (u l : List Bool) (hs : a.eval s = v) (hown : w.ownsRow base 4 1 v u.length (u.map Value.bool)) (p : Option Addr) (c : Nat) (hx : a.eval x = .slice p l.length c) (hB : BoolsAt w p l) (hnil : p = none → c = 0)
    (hb : u.length + l.length ≤ 70368744177664) (hbase : base ≤ w.heap.size)
    (hK : ∀ v' w', w'.ownsRow base 4 1 v' (u ++ l).length ((u ++ l).map Value.bool) → w.grownBy w' v.ownBlock → wpList Tryz.prog ops Q rest (a.put o.dst v') w') : wpList Tryz.prog ops Q (o :: rest) a w := by
  obtain ⟨i0, hi, hz0, hz1, hz2⟩ := info_parts info4
  cases p with
  | none =>
    have h0 : l = [] := by
      cases l with
      | nil => rfl
      | cons a t => obtain ⟨b, off, h, _⟩ := hB (by simp); cases h
    subst h0
    obtain rfl := hnil rfl
    have hrun := run_append_owned_none (P := Tryz.prog) (w := w) base 44 o.type 4 i0 1 Tryz.underlying44 hi v u.length _ hown
    refine wpList_plain hgd fun K' hK' => ?_
    unfold Oper.wp
    simp only [List.length_nil] at hx
    simp [execOp, ho, resolve, invoke, builtin, hs, hx, hrun, Result.andThen]
    exact hK' _ _ (hK v w (by simpa using hown) ⟨rfl, rfl, rfl, Nat.le_refl _, fun _ _ _ => rfl⟩)
  | some ad =>
    refine wpList_append_own w hgd s x 44 ho base 4 i0 (.bool false) 1 1 Tryz.underlying44 hi hz0 hz1 hz2 rfl (by decide) v u.length _ hs hown ad l.length c (l.map Value.bool) hx (by simp) (bools_cells hB) ?_ (by unfold maxLen; omega) (by omega) hbase (fun v' w' a b _ => hK v' w' (by simpa using a) b)
    intro u hu
    obtain ⟨x, _, rfl⟩ := List.mem_map.1 hu
    rfl

theorem bools_one {w : World} (x : Bool) : BoolsAt (w.alloc (.cells #[.bool x] 4)) (some ⟨w.heap.size, 0, none⟩) [x] := fun _ => ⟨w.heap.size, 0, rfl, fun i hi => by
  match i, hi with
  | 0, _ => simp [go_sem]⟩

/-- What the first nodes are. -/
def nodesV (bs : List Bool) (ps : List (Int × Int)) : Nat → List Bool
  | 0 => false :: bs
  | k + 1 => nodesV bs ps k ++ [match ps[k]? with | some p => litV (nodesV bs ps k) p.1 && litV (nodesV bs ps k) p.2 | none => false]
theorem nodesV_succ {bs : List Bool} {ps : List (Int × Int)} {k : Nat} (h : k < ps.length) : nodesV bs ps (k + 1) = nodesV bs ps k ++ [litV (nodesV bs ps k) ps[k].1 && litV (nodesV bs ps k) ps[k].2] := by
  simp [nodesV, List.getElem?_eq_getElem h]
theorem nodesV_len (bs : List Bool) (ps : List (Int × Int)) (k : Nat) : (nodesV bs ps k).length = 1 + bs.length + k := by
  induction k with
  | zero => simp [nodesV]; omega
  | succ k ih => simp [nodesV, ih]; omega

theorem make_bools (N : Nat) (hN : 1 ≤ N) (h2 : N ≤ 2000000) : ∃ CZ : Array Value, (∀ w : World, (w.alloc (.cells CZ 4)).ownsRow w.heap.size 4 1 (.slice (some ⟨w.heap.size, 0, none⟩) 1 N) 1 [.bool false]) ∧
    ∀ w : World, (Instr.makeSlice 44 (.int .i64 1) (.int .i64 (N : Int))).run Tryz.prog w = .ok (.slice (some ⟨w.heap.size, 0, none⟩) 1 N) (w.alloc (.cells CZ 4)) := by
  obtain ⟨i0, hi, hz0, hz1, hz2⟩ := info_parts info4
  refine ⟨madeCells #[.bool false] N, fun w => ⟨rfl, .inr ⟨w.heap.size, N, _, rfl, Nat.le_refl _, heap_alloc_new w _, hN, by unfold maxLen; omega, by rw [size_madeCells]; omega, ?_⟩⟩, fun w => ?_⟩
  · rw [toList_madeCells_one]
    cases N with
    | zero => omega
    | succ n => simp [List.replicate_succ]
  · have h := run_makeSlice (P := Tryz.prog) w 44 4 i0 (.bool false) Tryz.underlying44 hi hz0 .i64 .i64 1 (N : Int) (by omega) (by omega) (by rw [hz1]; simp; omega) (by rw [hz2]; omega) (by omega)
    rw [hz1, Nat.mul_one, Int.toNat_natCast] at h
    exact h

theorem stand_bd {a b n : Int} (h : standB a b n = true) : 0 ≤ a ∧ a < 2 * n ∧ 0 ≤ b ∧ b < 2 * n := by
  simp [standB] at h
  omega

end Go.Proofs.YtabnimgpednhjabGreat.Gg
