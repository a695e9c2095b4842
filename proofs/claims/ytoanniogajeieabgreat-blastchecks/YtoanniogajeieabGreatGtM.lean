/- Gates: And. -/
import Derived.Test.YtoanniogajeieabGreatGi
import Derived.Test.YtoanniogajeieabGreatRows
import Derived.ProofKit
import Derived.SizedLaws
import Derived.OpenShut
import Derived.ChangeOld
import Derived.Below
import Derived.Deep.Slices
import Derived.Test.YtoanniogajeieabGreatGdM
namespace Go.Proofs.YtoanniogajeieabGreat.Gg
open Go.RowKit Go.Maps Go.WideMaps
set_option maxRecDepth 100000

/-- The And of two literals, the lesser one first: its literal, whether it could be made, and the graph's Ands then. -/
def makLit (ins : Int) (ps : List (Int × Int)) (a b : Int) : Int := if a = 0 ∨ a = turn b then 0 else if a = 1 ∨ a = b then b else addLit ins ps (a, b)
def makOk (ps : List (Int × Int)) (a b : Int) : Bool := if a = 0 ∨ a = turn b then true else if a = 1 ∨ a = b then true else addOk ps (a, b)
def makPs (ps : List (Int × Int)) (a b : Int) : List (Int × Int) := if a = 0 ∨ a = turn b then ps else if a = 1 ∨ a = b then ps else addPs ps (a, b)

theorem mak_no {ins : Int} {ps : List (Int × Int)} {a b : Int} (h : a = 0 ∨ a = turn b) : makLit ins ps a b = 0 ∧ makOk ps a b = true ∧ makPs ps a b = ps := by
  unfold makLit makOk makPs; rw [if_pos h, if_pos h, if_pos h]; exact ⟨rfl, rfl, rfl⟩
theorem mak_one {ins : Int} {ps : List (Int × Int)} {a b : Int} (h : ¬ (a = 0 ∨ a = turn b)) (h2 : a = 1 ∨ a = b) : makLit ins ps a b = b ∧ makOk ps a b = true ∧ makPs ps a b = ps := by
  unfold makLit makOk makPs; rw [if_neg h, if_neg h, if_neg h, if_pos h2, if_pos h2, if_pos h2]; exact ⟨rfl, rfl, rfl⟩
theorem mak_add {ins : Int} {ps : List (Int × Int)} {a b : Int} (h : ¬ (a = 0 ∨ a = turn b)) (h2 : ¬ (a = 1 ∨ a = b)) : makLit ins ps a b = addLit ins ps (a, b) ∧ makOk ps a b = addOk ps (a, b) ∧ makPs ps a b = addPs ps (a, b) := by
  unfold makLit makOk makPs; rw [if_neg h, if_neg h, if_neg h, if_neg h2, if_neg h2, if_neg h2]; exact ⟨rfl, rfl, rfl⟩

theorem turn_ne (x : Int) : x ≠ turn x := by unfold turn; split <;> omega

set_option maxRecDepth 100000 in
set_option maxHeartbeats 4000000 in
theorem makerAnd_lt (ins : Int) (ps : List (Int × Int)) (hl : ps.length ≤ 1000000) (h0 : 0 ≤ ins) (h1 : ins ≤ 1000) (x y a b : Int) (hxy : x < y) (hx : 0 ≤ x) (hy : y ≤ 10000000) (hab : (a = x ∧ b = y) ∨ (a = y ∧ b = x)) (hd : dupN ps ps.length = false)
    (w : World) (base M B : Nat) (v : Value) (D : DataW Unit) (hbs : base ≤ w.heap.size) (hmk : Mk w base M B v ins ps) (hown : w.ownsMap Tryz.prog 81 (plainElem Tryz.prog 3) B ps.length D) (hmap : MapIs ins ps ps.length D) :
    Calls Tryz.prog 120 #[.pointer (some ⟨M, 0, none⟩), .int .i64 a, .int .i64 b] w fun e w' => ∃ v', e = .returned (.tuple #[.int .i64 (makLit ins ps x y), .bool (makOk ps x y)]) ∧
      Mk w' base M B v' ins (makPs ps x y) ∧ Below base w w' := by
  have HCL := hide (add_any ins ps hl h0 h1 x y ⟨by omega, by omega⟩ ⟨by omega, by omega⟩ hd w base M B v D hbs hmk hown hmap)
  have HMK := hide hmk
  have HT := hide (fun w => turn_any y (by omega) hy w)
  clear hmk hown hmap hd
  by_cases hz : x = 0
  · have HE := hide (mak_no (ins := ins) (ps := ps) (Or.inl hz : x = 0 ∨ x = turn y))
    have hz' : (x == 0) = true := by simpa using hz
    clear HCL hz
    rcases hab with ⟨rfl, rfl⟩ | ⟨rfl, rfl⟩
    all_goals
      go_enter Tryz.func120, Tryz.ntmps120
      go_wp2
      go_ret2
      exact ⟨v, by rw [HE.out.1, HE.out.2.1]; rfl, by rw [HE.out.2.2]; exact HMK.out, Below.refl _ _⟩
  have hz' : (x == 0) = false := by simpa using hz
  by_cases ht : x = turn y
  · have HE := hide (mak_no (ins := ins) (ps := ps) (Or.inr ht : x = 0 ∨ x = turn y))
    have ht' : (x == turn y) = true := by simpa using ht
    clear HCL hz ht
    generalize turn y = ty at *
    rcases hab with ⟨rfl, rfl⟩ | ⟨rfl, rfl⟩
    all_goals
      go_enter Tryz.func120, Tryz.ntmps120
      go_wp2_with (go_at_call 119; refine (HT.out _).mono ?_; rintro e w' ⟨rfl, rfl⟩)
      go_ret2
      exact ⟨v, by rw [HE.out.1, HE.out.2.1]; rfl, by rw [HE.out.2.2]; exact HMK.out, Below.refl _ _⟩
  have ht' : (x == turn y) = false := by simpa using ht
  have hno : ¬ (x = 0 ∨ x = turn y) := fun h => h.elim hz ht
  have hne : (x == y) = false := by simp; omega
  by_cases ho : x = 1
  · have HE := hide (mak_one (ins := ins) (ps := ps) hno (Or.inl ho : x = 1 ∨ x = y))
    have ho' : (x == 1) = true := by simpa using ho
    clear HCL hz ht ho hno
    generalize turn y = ty at *
    rcases hab with ⟨rfl, rfl⟩ | ⟨rfl, rfl⟩
    all_goals
      go_enter Tryz.func120, Tryz.ntmps120
      go_wp2_with (go_at_call 119; refine (HT.out _).mono ?_; rintro e w' ⟨rfl, rfl⟩)
      go_ret2
      exact ⟨v, by rw [HE.out.1, HE.out.2.1]; rfl, by rw [HE.out.2.2]; exact HMK.out, Below.refl _ _⟩
  · have HE := hide (mak_add (ins := ins) (ps := ps) hno (by omega : ¬ (x = 1 ∨ x = y)))
    have ho' : (x == 1) = false := by simpa using ho
    clear hz ht ho hno
    generalize turn y = ty at *
    rcases hab with ⟨rfl, rfl⟩ | ⟨rfl, rfl⟩
    all_goals
      go_enter Tryz.func120, Tryz.ntmps120
      go_wp2_with (first | (go_at_call 119; refine (HT.out _).mono ?_; rintro e w' ⟨rfl, rfl⟩) | fail)
      refine HCL.out.mono ?_
      rintro e w1 ⟨v', rfl, hmk1, hb1⟩
      have HR := hide (And.intro hmk1 hb1)
      clear hmk1 hb1
      go_wp2
      go_ret2
      exact ⟨v', by rw [HE.out.1, HE.out.2.1]; rfl, by rw [HE.out.2.2]; exact HR.out.1, HR.out.2⟩

set_option maxRecDepth 100000 in
set_option maxHeartbeats 4000000 in
theorem makerAnd_eq (ins : Int) (ps : List (Int × Int)) (x : Int) (hx : 0 ≤ x) (hy : x ≤ 10000000)
    (w : World) (base M B : Nat) (v : Value) (hmk : Mk w base M B v ins ps) :
    Calls Tryz.prog 120 #[.pointer (some ⟨M, 0, none⟩), .int .i64 x, .int .i64 x] w fun e w' => ∃ v', e = .returned (.tuple #[.int .i64 (makLit ins ps x x), .bool (makOk ps x x)]) ∧
      Mk w' base M B v' ins (makPs ps x x) ∧ Below base w w' := by
  have HMK := hide hmk
  have HT := hide (fun w => turn_any x (by omega) hy w)
  have hne := turn_ne x
  clear hmk
  by_cases hz : x = 0
  · have HE := hide (mak_no (ins := ins) (ps := ps) (Or.inl hz : x = 0 ∨ x = turn x))
    have hz' : (x == 0) = true := by simpa using hz
    clear hz hne
    go_enter Tryz.func120, Tryz.ntmps120
    go_wp2
    go_ret2
    exact ⟨v, by rw [HE.out.1, HE.out.2.1]; rfl, by rw [HE.out.2.2]; exact HMK.out, Below.refl _ _⟩
  have hz' : (x == 0) = false := by simpa using hz
  have ht' : (x == turn x) = false := by simpa using hne
  have hno : ¬ (x = 0 ∨ x = turn x) := fun h => h.elim hz hne
  have HE := hide (mak_one (ins := ins) (ps := ps) hno (Or.inr rfl : x = 1 ∨ x = x))
  clear hne hz hno
  generalize turn x = ty at *
  cases ho' : (x == 1)
  all_goals
    go_enter Tryz.func120, Tryz.ntmps120
    go_wp2_with (go_at_call 119; refine (HT.out _).mono ?_; rintro e w' ⟨rfl, rfl⟩)
    go_ret2
    exact ⟨v, by rw [HE.out.1, HE.out.2.1]; rfl, by rw [HE.out.2.2]; exact HMK.out, Below.refl _ _⟩

def andLit (ins : Int) (ps : List (Int × Int)) (a b : Int) : Int := makLit ins ps (min a b) (max a b)
def andOk (ps : List (Int × Int)) (a b : Int) : Bool := makOk ps (min a b) (max a b)
def andPs (ps : List (Int × Int)) (a b : Int) : List (Int × Int) := makPs ps (min a b) (max a b)

theorem makerAnd_any (ins : Int) (ps : List (Int × Int)) (hl : ps.length ≤ 1000000) (h0 : 0 ≤ ins) (h1 : ins ≤ 1000) (a b : Int) (ha : 0 ≤ a) (ha2 : a ≤ 10000000) (hb : 0 ≤ b) (hb2 : b ≤ 10000000) (hd : dupN ps ps.length = false)
    (w : World) (base M B : Nat) (v : Value) (D : DataW Unit) (hbs : base ≤ w.heap.size) (hmk : Mk w base M B v ins ps) (hown : w.ownsMap Tryz.prog 81 (plainElem Tryz.prog 3) B ps.length D) (hmap : MapIs ins ps ps.length D) :
    Calls Tryz.prog 120 #[.pointer (some ⟨M, 0, none⟩), .int .i64 a, .int .i64 b] w fun e w' => ∃ v', e = .returned (.tuple #[.int .i64 (andLit ins ps a b), .bool (andOk ps a b)]) ∧
      Mk w' base M B v' ins (andPs ps a b) ∧ Below base w w' := by
  unfold andLit andOk andPs
  rcases Int.lt_trichotomy a b with h | h | h
  · rw [Int.min_eq_left (by omega), Int.max_eq_right (by omega)]
    exact makerAnd_lt ins ps hl h0 h1 a b a b h ha hb2 (Or.inl ⟨rfl, rfl⟩) hd w base M B v D hbs hmk hown hmap
  · subst h
    rw [Int.min_eq_left (by omega), Int.max_eq_right (by omega)]
    exact makerAnd_eq ins ps a ha ha2 w base M B v hmk
  · rw [Int.min_eq_right (by omega), Int.max_eq_left (by omega)]
    exact makerAnd_lt ins ps hl h0 h1 b a a b h hb ha2 (Or.inr ⟨rfl, rfl⟩) hd w base M B v D hbs hmk hown hmap

end Go.Proofs.YtoanniogajeieabGreat.Gg

namespace Go.Proofs.YtoanniogajeieabGreat.Gg
open Go.RowKit Go.Maps Go.WideMaps
set_option maxRecDepth 100000

theorem info4 : (Tryz.prog.info? 4).map (fun i => (i.zero, i.size, i.bytes)) = some (some (.bool false), 1, 1) := by kernel_rfl

theorem owns_bools {w : World} {base : Nat} {v : Value} {l : List Bool} (h : w.ownsRow base 4 1 v l.length (l.map Value.bool)) : ∃ p cap, v = .slice p l.length cap ∧ BoolsAt w p l := by
  have h3 := h
  obtain ⟨h1, h2⟩ := h
  rcases h2 with ⟨rfl, h0⟩ | ⟨g, cap, cur, rfl, hg, hh, hn, hm, hs, ht⟩
  · refine ⟨none, 0, by rw [h0], fun h => by omega⟩
  · refine ⟨_, cap, rfl, fun _ => ⟨g, 0, rfl, fun i hi => ?_⟩⟩
    have := h3.cellAt i (by omega)
    rw [Nat.zero_add, this, List.getElem?_map, List.getElem?_eq_getElem hi]
    rfl

theorem bools_cells {w : World} {l : List Bool} {ad : Addr} (h : BoolsAt w (some ad) l) : ∀ j u, (l.map Value.bool)[j]? = some u → w.cell? (ad.add j) = some u := by
  intro j u hj
  obtain ⟨hjl, hju⟩ := List.getElem?_eq_some_iff.1 hj
  have hjl' : j < l.length := by simpa using hjl
  obtain ⟨b, off, h, hc⟩ := h (by omega)
  cases h
  rw [Addr.add_lit, hc j hjl', ← hju]
  simp

theorem wpList_append_bools {w : World} {ops : Array Oper} {rest : List Oper} {o : Oper} {a : Act} {Q : Exit → Act → World → Prop} (hgd : o.guard = none) (s x : Operand)
    (ho : o.op = .call { callee := .builtin .append, args := #[s, x], argTypes := #[44, 44] })
    (base : Nat) (v : Value) (u l : List Bool) (hs : a.eval s = v) (hown : w.ownsRow base 4 1 v u.length (u.map Value.bool)) (p : Option Addr) (c : Nat) (hx : a.eval x = .slice p l.length c) (hB : BoolsAt w p l) (hnil : p = none → c = 0)
    (hb : u.length + l.length ≤ 70368744177664) (hbase : base ≤ w.heap.size)
    (hK : ∀ v' w', w'.ownsRow base 4 1 v' (u ++ l).length ((u ++ l).map Value.bool) → w.grownBy w' v.ownBlock → wpList Tryz.prog ops Q rest (a.put o.dst v') w') : wpList Tryz.prog ops Q (o :: rest) a w := by
  obtain ⟨i0, hi, hz0, hz1, hz2⟩ := info_parts info4
  cases p with
  | none =>
    have h0 : l = [] := by
      cases l with
      | nil => rfl
      | cons a t => obtain ⟨b, off, h, _⟩ := hB (by simp); cases h
    subst h0
    obtain rfl := hnil rfl
    have hrun := run_append_owned_none (P := Tryz.prog) (w := w) base 44 o.type 4 i0 1 Tryz.underlying44 hi v u.length _ hown
    refine wpList_plain hgd fun K' hK' => ?_
    unfold Oper.wp
    simp only [List.length_nil] at hx
    simp [execOp, ho, resolve, invoke, builtin, hs, hx, hrun, Result.andThen]
    exact hK' _ _ (hK v w (by simpa using hown) ⟨rfl, rfl, rfl, Nat.le_refl _, fun _ _ _ => rfl⟩)
  | some ad =>
    refine wpList_append_own w hgd s x 44 ho base 4 i0 (.bool false) 1 1 Tryz.underlying44 hi hz0 hz1 hz2 rfl (by decide) v u.length _ hs hown ad l.length c (l.map Value.bool) hx (by simp) (bools_cells hB) ?_ (by unfold maxLen; omega) (by omega) hbase (fun v' w' a b _ => hK v' w' (by simpa using a) b)
    intro u hu
    obtain ⟨x, _, rfl⟩ := List.mem_map.1 hu
    rfl

theorem bools_one {w : World} (x : Bool) : BoolsAt (w.alloc (.cells #[.bool x] 4)) (some ⟨w.heap.size, 0, none⟩) [x] := fun _ => ⟨w.heap.size, 0, rfl, fun i hi => by
  match i, hi with
  | 0, _ => simp [go_sem]⟩

/-- What the first nodes are. -/
def nodesV (bs : List Bool) (ps : List (Int × Int)) : Nat → List Bool
  | 0 => false :: bs
  | k + 1 => nodesV bs ps k ++ [match ps[k]? with | some p => litV (nodesV bs ps k) p.1 && litV (nodesV bs ps k) p.2 | none => false]
theorem nodesV_succ {bs : List Bool} {ps : List (Int × Int)} {k : Nat} (h : k < ps.length) : nodesV bs ps (k + 1) = nodesV bs ps k ++ [litV (nodesV bs ps k) ps[k].1 && litV (nodesV bs ps k) ps[k].2] := by
  simp [nodesV, List.getElem?_eq_getElem h]
theorem nodesV_len (bs : List Bool) (ps : List (Int × Int)) (k : Nat) : (nodesV bs ps k).length = 1 + bs.length + k := by
  induction k with
  | zero => simp [nodesV]; omega
  | succ k ih => simp [nodesV, ih]; omega

theorem make_bools (N : Nat) (hN : 1 ≤ N) (h2 : N ≤ 2000000) : ∃ CZ : Array Value, (∀ w : World, (w.alloc (.cells CZ 4)).ownsRow w.heap.size 4 1 (.slice (some ⟨w.heap.size, 0, none⟩) 1 N) 1 [.bool false]) ∧
    ∀ w : World, (Instr.makeSlice 44 (.int .i64 1) (.int .i64 (N : Int))).run Tryz.prog w = .ok (.slice (some ⟨w.heap.size, 0, none⟩) 1 N) (w.alloc (.cells CZ 4)) := by
  obtain ⟨i0, hi, hz0, hz1, hz2⟩ := info_parts info4
  refine ⟨madeCells #[.bool false] N, fun w => ⟨rfl, .inr ⟨w.heap.size, N, _, rfl, Nat.le_refl _, heap_alloc_new w _, hN, by unfold maxLen; omega, by rw [size_madeCells]; omega, ?_⟩⟩, fun w => ?_⟩
  · rw [toList_madeCells_one]
    cases N with
    | zero => omega
    | succ n => simp [List.replicate_succ]
  · have h := run_makeSlice (P := Tryz.prog) w 44 4 i0 (.bool false) Tryz.underlying44 hi hz0 .i64 .i64 1 (N : Int) (by omega) (by omega) (by rw [hz1]; simp; omega) (by rw [hz2]; omega) (by omega)
    rw [hz1, Nat.mul_one, Int.toNat_natCast] at h
    exact h

theorem stand_bd {a b n : Int} (h : standB a b n = true) : 0 ≤ a ∧ a < 2 * n ∧ 0 ≤ b ∧ b < 2 * n := by
  simp [standB] at h
  omega

end Go.Proofs.YtoanniogajeieabGreat.Gg

namespace Go.Proofs.YtoanniogajeieabGreat.Gg
open Go.ChangeShapes Go.WideShapes Go.ChangeAt Go.RowKit Go.Deep
set_option maxRecDepth 100000

theorem own : ownKnob Tryz.prog.godebug = none := by kernel_rfl
theorem laidOut : laidOutB Tryz.prog = true := by kernel_rfl
theorem cells3 : Tryz.prog.cellsOf 3 = 1 := by kernel_rfl
theorem cells4 : Tryz.prog.cellsOf 4 = 1 := by kernel_rfl
theorem cells22 : Tryz.prog.cellsOf 22 = 1 := by kernel_rfl
theorem cells24 : Tryz.prog.cellsOf 24 = 2 := by kernel_rfl
theorem cells55 : Tryz.prog.cellsOf 81 = 2 := by kernel_rfl
theorem bytes3 : Tryz.prog.bytesOf 3 = 8 := by kernel_rfl
theorem bytes4 : Tryz.prog.bytesOf 4 = 1 := by kernel_rfl
theorem bytes55 : Tryz.prog.bytesOf 81 = 16 := by kernel_rfl

theorem wf_of {n : Int} (h : (Lit.int .i64 n).wf = true) : Wf n := by
  unfold Lit.wf at h
  simp only [Bool.and_eq_true, decide_eq_true_eq] at h
  exact ⟨h.1, h.2⟩

section
variable {H : Type} {enc : TypeId × Value → H} {W : World} {base : Nat} {sp : Nat → Bool} {held : Bool} {fuel : Nat} {v : Value} {x : DataW H × List MemPlace}

theorem weigh {t e : TypeId} {es ss : List (DataW H)} (hu : Tryz.prog.underlying t = some (.slice e)) (h : ((DataW.slice es ss).weights Tryz.prog t).all (· ≤ reachBytes) = true) : es.length * Tryz.prog.bytesOf e ≤ reachBytes := by
  have h1 := List.all_eq_true.1 h ((es.length + ss.length) * Tryz.prog.bytesOf e) (by simp [DataW.weights, hu])
  have h2 : (es.length + ss.length) * Tryz.prog.bytesOf e ≤ reachBytes := by simpa using h1
  exact Nat.le_trans (Nat.mul_le_mul_right _ (Nat.le_add_right _ _)) h2

theorem in_ints (h : DataW.trod enc Tryz.prog W base sp held fuel 25 [v] = some x) :
    ∃ p c l, v = .slice p (List.length l) c ∧ IntsAt W p l ∧ ((x.1.weights Tryz.prog 25).all (· ≤ reachBytes) = true → l.length ≤ 17592186043904) := by
  rcases open_ints Tryz.underlying25 Tryz.underlying3 cells3 h with ⟨hcs, hx⟩ | ⟨a, len, cap, zs, hcs, _, hl, hm, hz, hx, hcell, _⟩
  · simp at hcs
    exact ⟨none, 0, [], hcs, fun h => by simp at h, fun _ => by simp⟩
  · simp at hcs
    have hlz : len ≤ zs.length := by rw [hz]; split <;> omega
    refine ⟨some a, cap, zs.take len, by rw [hcs, List.length_take, Nat.min_eq_left hlz], ?_, ?_⟩
    · intro h0
      rw [List.length_take, Nat.min_eq_left hlz] at h0
      obtain ⟨b, off, spot⟩ := a
      have hspot : spot = none := by simpa [Addr.add] using World.cell?_spot (hcell 0 (by omega))
      subst hspot
      refine ⟨b, off, rfl, fun i hi => ?_⟩
      have hi' : i < zs.length := by rw [List.length_take] at hi; omega
      have := hcell i hi'
      rw [Addr.add_lit] at this
      rw [this]
      simp [List.getD, List.getElem?_eq_getElem hi']
    · intro hw
      subst hx
      have := weigh Tryz.underlying25 hw
      rw [bytes3] at this
      simp only [lits, List.length_map, reachBytes] at this
      omega

theorem in_bools (h : DataW.trod enc Tryz.prog W base sp held fuel 44 [v] = some x) :
    ∃ p c l, v = .slice p (List.length l) c ∧ (p = none → c = 0) ∧ BoolsAt W p l ∧ l.length ≤ maxLen := by
  rcases open_slice1 Tryz.underlying44 cells4 h with ⟨hcs, hx⟩ | ⟨a, len, cap, m, n, V, D, Pl, hcs, _, hl, hm, hmm, hx, hcell⟩
  · simp at hcs
    exact ⟨none, 0, [], hcs, fun _ => rfl, fun h => by simp at h, by simp⟩
  · simp at hcs
    have hlm : len ≤ m := by rw [hmm]; split <;> omega
    obtain ⟨F, hF⟩ := choose_lt (α := Bool) (n := len) (p := fun i b => V i = .bool b) (fun i hi => by
      obtain ⟨b, h1, _⟩ := DataW.trod_bool Tryz.underlying4 (hcell i (by omega)).2
      exact ⟨b, by simpa using h1⟩)
    have hlen : ((List.range len).map F).length = len := by simp
    refine ⟨some a, cap, (List.range len).map F, by rw [hcs, hlen], (fun h => by cases h), ?_, by rw [hlen]; omega⟩
    intro h0
    rw [hlen] at h0
    obtain ⟨b, off, spot⟩ := a
    have hspot : spot = none := by simpa [Addr.add] using World.cell?_spot (hcell 0 (by omega)).1
    subst hspot
    refine ⟨b, off, rfl, fun i hi => ?_⟩
    have hi' : i < len := by rw [hlen] at hi; exact hi
    have := (hcell i (by omega)).1
    rw [Addr.add_lit, hF i hi'] at this
    rw [this, List.getElem_map, List.getElem_range]

theorem in_pairs (h : DataW.trod enc Tryz.prog W base sp held fuel 22 [v] = some x) :
    ∃ p c l, v = .slice p (List.length l) c ∧ (p = none → c = 0) ∧ PairsAt W p l ∧ WfP l ∧ ((x.1.weights Tryz.prog 22).all (· ≤ reachBytes) = true → l.length ≤ 8796093021952) := by
  rcases open_slice Tryz.underlying22 h with ⟨hcs, hx⟩ | ⟨a, len, cap, m, n, D, Pl, hcs, _, hl, hm, hmm, hx, hcell⟩
  · simp at hcs
    exact ⟨none, 0, [], hcs, fun _ => rfl, fun h => by simp at h, fun i h => by simp at h, fun _ => by simp⟩
  · simp at hcs
    have hlm : len ≤ m := by rw [hmm]; split <;> omega
    have key : ∀ i, i < len → ∃ q : Int × Int, W.cell? (a.add (i * 2 + 0)) = some (.int .i64 q.1) ∧ W.cell? (a.add (i * 2 + 1)) = some (.int .i64 q.2) ∧ Wf q.1 ∧ Wf q.2 := by
      intro i hi
      obtain ⟨cs, hc, ht⟩ := hcell i (by omega)
      rw [cells55] at hc
      obtain ⟨_, hlen, hat⟩ := World.cells?_some hc
      obtain ⟨y, q, _, _, _, hl2, hx2⟩ := DataW.trod_array Tryz.underlying81 ht
      match cs, hlen with
      | [w0, w1], _ =>
        have e0 := hx2 0 (by omega)
        have e1 := hx2 1 (by omega)
        rw [List.getElem?_eq_getElem (by omega)] at e0 e1
        obtain ⟨n0, h0, _, f0⟩ := DataW.trod_int Tryz.underlying3 e0
        obtain ⟨n1, h1, _, f1⟩ := DataW.trod_int Tryz.underlying3 e1
        simp [cells3] at h0 h1
        subst h0 h1
        have g : ∀ j, (a.add (i * 2)).add j = a.add (i * 2 + j) := fun j => Go.Deep.add_add _ _ _
        refine ⟨(n0, n1), ?_, ?_, wf_of f0, wf_of f1⟩
        · have := hat 0 (by omega); rw [g] at this; exact this
        · have := hat 1 (by omega); rw [g] at this; exact this
    obtain ⟨F, hF⟩ := choose_lt key
    have hlen : ((List.range len).map F).length = len := by simp
    refine ⟨some a, cap, (List.range len).map F, by rw [hcs, hlen], (fun h => by cases h), ?_, ?_, ?_⟩
    · intro h0
      rw [hlen] at h0
      obtain ⟨b, off, spot⟩ := a
      have hspot : spot = none := by simpa [Addr.add] using World.cell?_spot (hF 0 (by omega)).1
      subst hspot
      refine ⟨b, off, rfl, fun i hi => ?_⟩
      have hi' : i < len := by rw [hlen] at hi; exact hi
      obtain ⟨e0, e1, _⟩ := hF i hi'
      rw [Addr.add_lit] at e0 e1
      rw [List.getElem_map, List.getElem_range]
      exact ⟨e0, by rw [Nat.add_assoc]; exact e1⟩
    · intro i hi
      have hi' : i < len := by rw [hlen] at hi; exact hi
      rw [List.getElem_map, List.getElem_range]
      exact (hF i hi').2.2
    · intro hw
      subst hx
      have := weigh Tryz.underlying22 hw
      rw [bytes55] at this
      simp only [List.length_map, List.length_range, reachBytes] at this
      rw [hlen]
      omega

theorem two_cells {α : Type} {cs : Array α} (h : cs.size = 2) : ∃ c0 c1, cs = #[c0, c1] := by
  obtain ⟨l⟩ := cs
  match l, h with
  | [a, b], _ => exact ⟨a, b, rfl⟩

end

set_option maxRecDepth 100000 in
theorem in_graph {H : Type} {enc : TypeId × Value → H} {W : World} {r : Reach} {b0 base : Nat} {sp : Nat → Bool} {held : Bool} {v : Value} {d : DataW H} {p : List MemPlace}
    (hv : Value.okWide Tryz.prog W r b0 24 v) (h : DataW.Trod enc Tryz.prog W base sp held 24 v d p) :
    ∃ ins q c ps, v = gval ins q (List.length ps) c ∧ (q = none → c = 0) ∧ PairsAt W q ps ∧ WfP ps ∧ ((d.weights Tryz.prog 24).all (· ≤ reachBytes) = true → ps.length ≤ 8796093021952) := by
  obtain ⟨cs, rfl, hsz⟩ := okWide_struct Tryz.underlying24 hv
  obtain ⟨v0, v1, rfl⟩ := two_cells (hsz.trans cells24)
  obtain ⟨fuel, hf⟩ := h
  simp only [Value.cells] at hf
  obtain ⟨y, m, _, hxy, _, hl, hx⟩ := DataW.trod_struct Tryz.underlying24 hf
  have hl2 : y.length = 2 := hl
  match y, hl2 with
  | [y0, y1], _ =>
    have e0 := hx 0 _ rfl
    have e1 := hx 1 _ rfl
    simp [cells3] at e0
    simp [cells22] at e1
    obtain ⟨n0, g0, _⟩ := DataW.trod_int Tryz.underlying3 e0
    simp at g0
    subst g0
    obtain ⟨a1, c1, ps, rfl, N1, H1, F1, L1⟩ := in_pairs e1
    have hd : d = .agg [y0.1, y1.1] := by simpa using congrArg Prod.fst hxy
    refine ⟨n0, a1, c1, ps, rfl, N1, H1, F1, fun hs => L1 ?_⟩
    rw [hd] at hs
    simp only [DataW.weights, Tryz.underlying24, List.map_cons, List.map_nil, DataW.weightsEach, List.all_append, Bool.and_eq_true] at hs
    exact hs.2.1

end Go.Proofs.YtoanniogajeieabGreat.Gg

namespace Go.Proofs.YtoanniogajeieabGreat.Gg
open Go.RowKit Go.Maps Go.WideMaps
set_option maxRecDepth 100000

theorem info3 : (Tryz.prog.info? 3).map (fun i => (i.zero, i.size, i.bytes)) = some (some (.int .i64 0), 1, 8) := by kernel_rfl
theorem owns_ints {w : World} {base : Nat} {v : Value} {l : List Int} (h : w.ownsRow base 3 1 v l.length (l.map (Value.int .i64))) : ∃ p cap, v = .slice p l.length cap ∧ IntsAt w p l ∧ (p = none → cap = 0) := by
  have h3 := h
  obtain ⟨h1, h2⟩ := h
  rcases h2 with ⟨rfl, h0⟩ | ⟨g, cap, cur, rfl, hg, hh, hn, hm, hs, ht⟩
  · exact ⟨none, 0, by rw [h0], fun h => by omega, fun _ => rfl⟩
  · refine ⟨_, cap, rfl, fun _ => ⟨g, 0, rfl, fun i hi => ?_⟩, fun h => by cases h⟩
    have := h3.cellAt i (by omega)
    rw [Nat.zero_add, this, List.getElem?_map, List.getElem?_eq_getElem hi]
    rfl
theorem ints_cells {w : World} {l : List Int} {ad : Addr} (h : IntsAt w (some ad) l) : ∀ j u, (l.map (Value.int .i64))[j]? = some u → w.cell? (ad.add j) = some u := by
  intro j u hj
  obtain ⟨hjl, hju⟩ := List.getElem?_eq_some_iff.1 hj
  have hjl' : j < l.length := by simpa using hjl
  obtain ⟨b, off, h, hc⟩ := h (by omega)
  cases h
  rw [Addr.add_lit, hc j hjl', ← hju]
  simp

theorem wp_append_ints {w : World} {o : Oper} {a : Act} {K : Act → World → Prop} {Q : Exit → Act → World → Prop} (s x : Operand)
    (ho : o.op = .call { callee := .builtin .append, args := #[s, x], argTypes := #[25, 25] })
    (base : Nat) (v : Value) (u l : List Int) (hs : a.eval s = v) (hown : w.ownsRow base 3 1 v u.length (u.map (Value.int .i64))) (p : Option Addr) (c : Nat) (hx : a.eval x = .slice p l.length c) (hB : IntsAt w p l) (hnil : p = none → c = 0)
    (hb : u.length + l.length ≤ 17592186044416) (hbase : base ≤ w.heap.size)
    (hK : ∀ v' w', w'.ownsRow base 3 1 v' (u ++ l).length ((u ++ l).map (Value.int .i64)) → w.grownBy w' v.ownBlock → K (a.put o.dst v') w') : o.wp Tryz.prog a w K Q := by
  obtain ⟨i0, hi, hz0, hz1, hz2⟩ := info_parts info3
  cases p with
  | none =>
    have h0 : l = [] := by
      cases l with
      | nil => rfl
      | cons a t => obtain ⟨b, off, h, _⟩ := hB (by simp); cases h
    subst h0
    obtain rfl := hnil rfl
    have hrun := run_append_owned_none (P := Tryz.prog) (w := w) base 25 o.type 3 i0 1 Tryz.underlying25 hi v u.length _ hown
    unfold Oper.wp
    simp only [List.length_nil] at hx
    simp [execOp, ho, resolve, invoke, builtin, hs, hx, hrun, Result.andThen]
    exact hK v w (by simpa using hown) ⟨rfl, rfl, rfl, Nat.le_refl _, fun _ _ _ => rfl⟩
  | some ad =>
    refine wp_append_own w s x 25 ho base 3 i0 (.int .i64 0) 1 8 Tryz.underlying25 hi hz0 hz1 hz2 rfl (by decide) v u.length _ hs hown ad l.length c (l.map (Value.int .i64)) hx (by simp) (ints_cells hB) ?_ (by unfold maxLen; omega) (by omega) hbase (fun v' w' a b _ => hK v' w' (by simpa using a) b)
    intro u hu
    obtain ⟨x, _, rfl⟩ := List.mem_map.1 hu
    rfl

theorem wpList_append_ints {w : World} {ops : Array Oper} {rest : List Oper} {o : Oper} {a : Act} {Q : Exit → Act → World → Prop} (hgd : o.guard = none) (s x : Operand)
    (ho : o.op = .call { callee := .builtin .append, args := #[s, x], argTypes := #[25, 25] })
    (base : Nat) (v : Value) (u l : List Int) (hs : a.eval s = v) (hown : w.ownsRow base 3 1 v u.length (u.map (Value.int .i64))) (p : Option Addr) (c : Nat) (hx : a.eval x = .slice p l.length c) (hB : IntsAt w p l) (hnil : p = none → c = 0)
    (hb : u.length + l.length ≤ 17592186044416) (hbase : base ≤ w.heap.size)
    (hK : ∀ v' w', w'.ownsRow base 3 1 v' (u ++ l).length ((u ++ l).map (Value.int .i64)) → w.grownBy w' v.ownBlock → wpList Tryz.prog ops Q rest (a.put o.dst v') w') : wpList Tryz.prog ops Q (o :: rest) a w :=
  wpList_plain hgd fun _ hK' => wp_append_ints s x ho base v u l hs hown p c hx hB hnil hb hbase fun v' w' h1 h2 => hK' _ _ (hK v' w' h1 h2)

theorem step_append_ints {w : World} {ops : Array Oper} {o : Oper} {a : Act} {K : Act → World → Prop} {Q : Exit → Act → World → Prop} {E : Prop} (hgd : o.guard = none) (s x : Operand)
    (ho : o.op = .call { callee := .builtin .append, args := #[s, x], argTypes := #[25, 25] })
    (base : Nat) (v : Value) (u l : List Int) (hs : a.eval s = v) (hown : w.ownsRow base 3 1 v u.length (u.map (Value.int .i64))) (p : Option Addr) (c : Nat) (hx : a.eval x = .slice p l.length c) (hB : IntsAt w p l) (hnil : p = none → c = 0)
    (hb : u.length + l.length ≤ 17592186044416) (hbase : base ≤ w.heap.size)
    (hK : ∀ v' w', w'.ownsRow base 3 1 v' (u ++ l).length ((u ++ l).map (Value.int .i64)) → w.grownBy w' v.ownBlock → K (a.put o.dst v') w') :
    if Region.wanted o (yielded ops a.tmps) = true then Oper.wp Tryz.prog o a w K Q else E := by
  have hw : Region.wanted o (yielded ops a.tmps) = true := by simp [Region.wanted, hgd]
  rw [if_pos hw]
  exact wp_append_ints s x ho base v u l hs hown p c hx hB hnil hb hbase hK

theorem ints_one {w : World} (x : Int) : IntsAt (w.alloc (.cells #[.int .i64 x] 3)) (some ⟨w.heap.size, 0, none⟩) [x] := fun _ => ⟨w.heap.size, 0, rfl, fun i hi => by
  match i, hi with
  | 0, _ => simp [go_sem]⟩

theorem owns_intsN {w : World} {base n : Nat} {v : Value} {l : List Int} (hn : l.length = n) (h : w.ownsRow base 3 1 v n (l.map (Value.int .i64))) : ∃ p cap, v = .slice p n cap ∧ IntsAt w p l ∧ (p = none → cap = 0) := by
  subst hn; exact owns_ints h
theorem IntsAt.grown {w w1 : World} {row : Option Nat} {b : Nat} {l : List Int} (h : IntsAt w (some ⟨b, 0, none⟩) l) (hg : w.grownBy w1 row) (hne : some b ≠ row) : IntsAt w1 (some ⟨b, 0, none⟩) l := by
  intro h0
  obtain ⟨b', o', e, hc⟩ := h h0
  cases e
  exact ⟨b, 0, rfl, fun i hi => hg.cell (hc i hi) hne⟩

/-- The first numbers. -/
def upto (k : Nat) : List Int := (List.range k).map (fun i : Nat => (i : Int))
theorem upto_succ (k : Nat) : upto (k + 1) = upto k ++ [(k : Int)] := by simp [upto, List.range_succ]
theorem upto_len (k : Nat) : (upto k).length = k := by simp [upto]
theorem upto_no (k : Nat) (e : Int) (h : (k : Int) ≤ e) : (upto k).any (noLit e) = false := by
  rw [List.any_eq_false]
  intro x hx
  obtain ⟨i, hi, rfl⟩ := List.mem_map.1 hx
  have := List.mem_range.1 hi
  simp [noLit]
  omega

end Go.Proofs.YtoanniogajeieabGreat.Gg
