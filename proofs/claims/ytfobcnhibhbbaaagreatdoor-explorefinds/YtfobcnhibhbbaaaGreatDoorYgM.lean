/- Words of a number, and the number of words: lists alone. -/
import Derived.Test.YtfobcnhibhbbaaaGreatDoorYc
import Derived.Test.YtfobcnhibhbbaaaGreatDoorEaM
import Derived.Test.YtfobcnhibhbbaaaGreatDoorYeM
import Derived.ArgAppend
import Derived.Lib.AppendZeros
namespace Go.Proofs.YtfobcnhibhbbaaaGreatDoor.Ev.Xp

/-- What is left of a number behind k words, and the words. -/
def remN (ns : List Nd) (S : List Int) (x : Int) : Nat → Int
  | 0 => x
  | k + 1 => remN ns S x k / two (wdOf ns (S.getD k 0))
def wordN (ns : List Nd) (S : List Int) (x : Int) (k : Nat) : Int := remN ns S x k % two (wdOf ns (S.getD k 0))
def wordsN (ns : List Nd) (S : List Int) (x : Int) (k : Nat) : List Int := (List.range k).map (wordN ns S x)
theorem twoP (w : Int) : 0 < two w := by unfold two; exact Int.pow_pos (by decide)
/-- By the widths alone. -/
def wordsL : List Int → Int → List Int
  | [], _ => []
  | w :: ws, x => x % two w :: wordsL ws (x / two w)
def numL : List Int → List Int → Int
  | w :: ws, a :: l => a + two w * numL ws l
  | _, _ => 0
/-- How many there are. -/
def allL : List Int → Int
  | [] => 1
  | w :: ws => two w * allL ws
def FitL : List Int → List Int → Prop
  | [], [] => True
  | w :: ws, a :: l => 0 ≤ a ∧ a < two w ∧ FitL ws l
  | _, _ => False
theorem allL_pos (ws : List Int) : 0 < allL ws := by
  induction ws with
  | nil => decide
  | cons w ws ih => exact Int.mul_pos (twoP w) ih
theorem words_fit (ws : List Int) : ∀ x, FitL ws (wordsL ws x) := by
  induction ws with
  | nil => intro x; exact trivial
  | cons w ws ih => intro x; exact ⟨Int.emod_nonneg _ (by have := twoP w; omega), Int.emod_lt_of_pos _ (twoP w), ih _⟩
theorem num_words (ws : List Int) : ∀ x, 0 ≤ x → x < allL ws → numL ws (wordsL ws x) = x := by
  induction ws with
  | nil => intro x h0 h1; simp only [allL] at h1; show (0 : Int) = x; omega
  | cons w ws ih =>
    intro x h0 h1
    have hw := twoP w
    rw [wordsL, numL, ih (x / two w) (Int.ediv_nonneg h0 (by omega)) (Int.ediv_lt_of_lt_mul hw (by rw [Int.mul_comm]; exact h1))]
    have := Int.emod_add_mul_ediv x (two w)
    omega
theorem num_bd (ws : List Int) : ∀ l, FitL ws l → 0 ≤ numL ws l ∧ numL ws l < allL ws := by
  induction ws with
  | nil => intro l h; cases l with
    | nil => exact ⟨Int.le_refl _, by decide⟩
    | cons a l => exact h.elim
  | cons w ws ih =>
    intro l h
    cases l with
    | nil => exact h.elim
    | cons a l =>
      obtain ⟨h1, h2, h3⟩ := h
      obtain ⟨h4, h5⟩ := ih l h3
      have hw := twoP w
      have hm : 0 ≤ two w * numL ws l := Int.mul_nonneg (by omega) h4
      have hn : two w * numL ws l + two w ≤ two w * allL ws := by
        have : two w * (numL ws l + 1) ≤ two w * allL ws := Int.mul_le_mul_of_nonneg_left (by omega) (by omega)
        rw [Int.mul_add, Int.mul_one] at this
        exact this
      simp only [numL, allL]
      omega
theorem words_num (ws : List Int) : ∀ l, FitL ws l → wordsL ws (numL ws l) = l := by
  induction ws with
  | nil => intro l h; cases l with
    | nil => rfl
    | cons a l => exact h.elim
  | cons w ws ih =>
    intro l h
    cases l with
    | nil => exact h.elim
    | cons a l =>
      obtain ⟨h1, h2, h3⟩ := h
      have hw := twoP w
      rw [numL, wordsL]
      have e1 : (a + two w * numL ws l) % two w = a := by rw [Int.add_mul_emod_self_left, Int.emod_eq_of_lt h1 h2]
      have e2 : (a + two w * numL ws l) / two w = numL ws l := by
        rw [Int.add_mul_ediv_left _ _ (by omega), Int.ediv_eq_zero_of_lt h1 h2, Int.zero_add]
      rw [e1, e2, ih l h3]
theorem remN_cons (ns : List Nd) (s : Int) (S : List Int) (x : Int) (k : Nat) : remN ns (s :: S) x (k + 1) = remN ns S (x / two (wdOf ns s)) k := by
  induction k with
  | zero => rfl
  | succ k ih =>
    rw [remN, ih]
    rfl
theorem wordsN_L (ns : List Nd) (S : List Int) : ∀ x, wordsN ns S x S.length = wordsL (S.map (wdOf ns)) x := by
  induction S with
  | nil => intro x; rfl
  | cons s S ih =>
    intro x
    rw [List.map_cons, wordsL, ← ih (x / two (wdOf ns s))]
    unfold wordsN
    rw [List.length_cons, List.range_succ_eq_map, List.map_cons, List.map_map]
    congr 1
    refine List.map_congr_left fun k _ => ?_
    show wordN ns (s :: S) x (k + 1) = wordN ns S (x / two (wdOf ns s)) k
    unfold wordN
    rw [remN_cons]
    rfl
/-- As the plain text reckons the number: from the first word on. -/
def numK (ns : List Nd) (S l : List Int) : Nat → Int × Int
  | 0 => (0, 1)
  | k + 1 => ((numK ns S l k).1 + l.getD k 0 * (numK ns S l k).2, (numK ns S l k).2 * two (wdOf ns (S.getD k 0)))
theorem numK_cons (ns : List Nd) (s : Int) (S : List Int) (a : Int) (l : List Int) (k : Nat) : (numK ns (s :: S) (a :: l) (k + 1)).1 = a + two (wdOf ns s) * (numK ns S l k).1 ∧ (numK ns (s :: S) (a :: l) (k + 1)).2 = two (wdOf ns s) * (numK ns S l k).2 := by
  induction k with
  | zero =>
    refine ⟨?_, ?_⟩
    · show (0 : Int) + a * 1 = a + two (wdOf ns s) * 0
      omega
    · show (1 : Int) * two (wdOf ns s) = two (wdOf ns s) * 1
      omega
  | succ k ih =>
    rw [numK, ih.1, ih.2]
    refine ⟨?_, ?_⟩
    · show a + two (wdOf ns s) * (numK ns S l k).1 + l.getD k 0 * (two (wdOf ns s) * (numK ns S l k).2) = a + two (wdOf ns s) * ((numK ns S l k).1 + l.getD k 0 * (numK ns S l k).2)
      rw [Int.mul_add, Int.add_assoc, ← Int.mul_assoc, Int.mul_comm (l.getD k 0), Int.mul_assoc]
    · show two (wdOf ns s) * (numK ns S l k).2 * two (wdOf ns (S.getD k 0)) = two (wdOf ns s) * ((numK ns S l k).2 * two (wdOf ns (S.getD k 0)))
      rw [Int.mul_assoc]
theorem numK_L (ns : List Nd) (S : List Int) : ∀ l, l.length = S.length → (numK ns S l S.length).1 = numL (S.map (wdOf ns)) l ∧ (numK ns S l S.length).2 = allL (S.map (wdOf ns)) := by
  induction S with
  | nil => intro l _; cases l <;> exact ⟨rfl, rfl⟩
  | cons s S ih =>
    intro l hl
    cases l with
    | nil => simp at hl
    | cons a l =>
      obtain ⟨h1, h2⟩ := ih l (by simpa using hl)
      obtain ⟨h3, h4⟩ := numK_cons ns s S a l S.length
      rw [List.length_cons, h3, h4, h1, h2]
      exact ⟨rfl, rfl⟩
end Go.Proofs.YtfobcnhibhbbaaaGreatDoor.Ev.Xp

namespace Go.Proofs.YtfobcnhibhbbaaaGreatDoor.Ev.Xp
open Go.RowKit Go.Maps Go.WideMaps Go.WideShapes
set_option maxRecDepth 100000

theorem map_same {H : Type} {P : Program} {k : TypeId} {R : Value → Option (DataW H × List MemPlace)} {w w1 : World} {b n : Nat} {D : DataW H} (h : w.ownsMap P k R b n D) (e : w1.heap[b]? = w.heap[b]?) : w1.ownsMap P k R b n D := by
  obtain ⟨es, cl, h1, h2⟩ := h
  exact ⟨es, cl, e.trans h1, h2⟩
theorem row_same {w w1 : World} {base : Nat} {e : TypeId} {sz : Nat} {v : Value} {n : Nat} {xs : List Value} (h : w.ownsRow base e sz v n xs) (hb : ∀ g, v.ownBlock = some g → w1.heap[g]? = w.heap[g]?) : w1.ownsRow base e sz v n xs := by
  refine ⟨h.1, ?_⟩
  rcases h.2 with hn | ⟨g, cap, cur, rfl, hbg, hg, rest⟩
  · exact .inl hn
  · exact .inr ⟨g, cap, cur, rfl, hbg, (hb g rfl).trans hg, rest⟩
theorem heap_nmap {w : World} {H : Type} {P : Program} {k : TypeId} {R : Value → Option (DataW H × List MemPlace)} {b m : Nat} {D : DataW H} (hm : w.ownsMap P k R b m D) {g : Nat} {cs : Array Value} {T : TypeId} {fr : Nat × Nat} (hg : w.heap[g]? = some (.cells cs T fr)) : b ≠ g := by
  obtain ⟨es, cl, h1, _⟩ := hm
  intro e
  subst e
  rw [hg] at h1
  cases h1

/-- Nothing but what is one's own has changed; what is new is one's own, or nobody's. -/
structure Fr (X : Nat → Prop) (w w' : World) (X' : Nat → Prop) : Prop where
  os : w'.os = w.os
  tape : w'.tape = w.tape
  output : w'.output = w.output
  size : w.heap.size ≤ w'.heap.size
  far : ∀ g, g < w.heap.size → ¬ X g → w'.heap[g]? = w.heap[g]?
  to : ∀ g, X g → X' g
  fro : ∀ g, g < w.heap.size → X' g → X g
theorem Fr.refl (X : Nat → Prop) (w : World) : Fr X w w X := ⟨rfl, rfl, rfl, Nat.le_refl _, fun _ _ _ => rfl, fun _ h => h, fun _ _ h => h⟩
theorem Fr.trans {X Y Z : Nat → Prop} {a b c : World} (h : Fr X a b Y) (k : Fr Y b c Z) : Fr X a c Z :=
  ⟨k.os.trans h.os, k.tape.trans h.tape, k.output.trans h.output, Nat.le_trans h.size k.size, fun g hg hx => (k.far g (Nat.lt_of_lt_of_le hg h.size) fun e => hx (h.fro g hg e)).trans (h.far g hg hx), fun g e => k.to g (h.to g e), fun g hg e => h.fro g hg (k.fro g (Nat.lt_of_lt_of_le hg h.size) e)⟩
theorem Fr.below {X Y : Nat → Prop} {a b : World} (h : Fr X a b Y) {base : Nat} (hb : base ≤ a.heap.size) (hx : ∀ g, X g → base ≤ g) : Below base a b :=
  ⟨h.os, h.tape, h.output, h.size, fun k hk => h.far k (by omega) fun e => by have := hx k e; omega⟩
theorem Fr.quiet {X : Nat → Prop} {a b : World} (h : Below a.heap.size a b) : Fr X a b X := ⟨h.os, h.tape, h.output, h.size, fun g hg _ => h.block g hg, fun _ e => e, fun _ _ e => e⟩
theorem Fr.cell {X Y : Nat → Prop} {a b : World} (h : Fr X a b Y) {q : Addr} {v : Value} (hq : a.cell? q = some v) (hx : ¬ X q.block) : b.cell? q = some v := by
  rw [World.cell?_of_block (w := a) (h.far _ (World.block_lt_of_cell? _ _ hq) hx)]
  exact hq
section
variable {w : World} {X : Nat → Prop}
theorem Fr.set {q : Addr} (hq : X q.block) (u : Value) : Fr X w (w.setCell q u) X := by
  have hb : Below 0 w (w.setCell q u) := (Below.refl 0 w).setCell (Nat.zero_le _) u
  exact ⟨hb.os, hb.tape, hb.output, hb.size, fun g _ hx => Below.heap_setCell _ _ _ _ fun e => hx (e ▸ hq), fun _ e => e, fun _ _ e => e⟩
theorem Fr.grown {w1 : World} {row : Option Nat} (hg : w.grownBy w1 row) (hr : ∀ g, row = some g → X g) : Fr X w w1 X := ⟨hg.os, hg.tape, hg.output, hg.size, fun g h hx => hg.block g h fun e => hx (hr g e.symm), fun _ e => e, fun _ _ e => e⟩
theorem Fr.sets (l : List Value) : ∀ {w : World} {g : Nat} (k : Nat), X g → Fr X w (w.setCells g k l) X := by
  induction l with
  | nil => intro w g k hg; exact Fr.refl _ _
  | cons a l ih => intro w g k hg; rw [World.setCells]; exact (Fr.set (q := ⟨g, k, none⟩) hg a).trans (ih (k + 1) hg)
end
/-- A list of words, where it lies. -/
structure Rw where
  at' : Option Addr
  ns : List Int
  cap : Nat
def Rw.v (r : Rw) : Value := .slice r.at' r.ns.length r.cap
theorem info24 : (Tryz.prog.info? 24).map (fun i => (i.zero, i.size, i.bytes)) = some (some (.slice none 0 0), 1, 24) := by kernel_rfl
/-- States that are still to be left: a row that is cut off in front. -/
def AhAt (X : Nat → Prop) (w : World) (va : Value) (rows : List Rw) : Prop :=
  (va = .slice none 0 0 ∧ rows = []) ∨ ∃ (g off cap : Nat) (cur : Array Value), va = .slice (some ⟨g, off, none⟩) rows.length cap ∧ w.heap[g]? = some (.cells cur 24 (0, 0)) ∧ X g ∧ rows.length ≤ cap ∧ off + cap ≤ cur.size ∧ ∀ i (hi : i < rows.length), cur[off + i]? = some rows[i].v
theorem AhAt.cell {X : Nat → Prop} {w : World} {g off n cap : Nat} {rows : List Rw} (h : AhAt X w (.slice (some ⟨g, off, none⟩) n cap) rows) {i : Nat} (hi : i < rows.length) : w.cell? ⟨g, off + i, none⟩ = some rows[i].v := by
  rcases h with ⟨e, _⟩ | ⟨g', off', cap', cur, e, hb, _, _, _, hc⟩
  · cases e
  · injection e with e1 e2 e3
    injection e1 with e1
    injection e1 with e1 e4
    subst e1 e4
    rw [Lib.cell_of_heap hb]
    exact hc i hi
theorem AhAt.same {X X' : Nat → Prop} {w w1 : World} {va : Value} {rows : List Rw} (h : AhAt X w va rows) (hx : ∀ g, X g → X' g) (hs : ∀ g, va.ownBlock = some g → w1.heap[g]? = w.heap[g]?) : AhAt X' w1 va rows := by
  rcases h with h | ⟨g, off, cap, cur, rfl, hb, hX, h1, h2, h3⟩
  · exact .inl h
  · exact .inr ⟨g, off, cap, cur, rfl, (hs g rfl).trans hb, hx g hX, h1, h2, h3⟩
theorem one_new (v : Value) (w : World) (t : TypeId) : ∀ j u, ([v] : List Value)[j]? = some u → (w.alloc (.cells #[v] t)).cell? ((⟨w.heap.size, 0, none⟩ : Addr).add j) = some u := fun j u hj => by
  match j, hj with
  | 0, hj => simp at hj; subst hj; simp [go_sem, Addr.add]
/-- One more is laid behind them. -/
theorem ah_append {X : Nat → Prop} {w : World} {va : Value} {rows : List Rw} (h : AhAt X w va rows) (hxb : ∀ g, X g → g < w.heap.size) (r : Rw) (hlen : rows.length ≤ 100000) (ty : TypeId) :
    ∃ va' w' X', (Builtin.append_ #[27, 27] ty #[va, .slice (some ⟨w.heap.size, 0, none⟩) 1 1]).run Tryz.prog (w.alloc (.cells #[r.v] 24)) = .ok va' w' ∧ AhAt X' w' va' (rows ++ [r]) ∧ Fr X w w' X' ∧ (∃ p n c, va' = .slice (some p) n c) ∧ (∀ g, X' g → g < w'.heap.size) ∧ (∀ g, g < w.heap.size → va.ownBlock ≠ some g → w'.heap[g]? = w.heap[g]?) ∧ (∀ g, X' g → X g ∨ w.heap.size < g) := by
  obtain ⟨i0, hi, hz0, hz1, hz2⟩ := info_parts info24
  have hal : Below w.heap.size w (w.alloc (.cells #[r.v] 24)) := bal (Below.refl _ _) _
  have hnew := one_new r.v w 24
  have hsz : (w.alloc (.cells #[r.v] 24)).heap.size = w.heap.size + 1 := by simp
  have hone : ∀ u ∈ ([r.v] : List Value), u.oneCell' = true := fun u hu => by simp at hu; subst hu; rfl
  have hrow : ∀ {v' : Value} {w' : World}, w'.ownsRow (w.heap.size + 1) 24 1 v' (rows.length + 1) (rows.map Rw.v ++ [r.v]) → (w.alloc (.cells #[r.v] 24)).grownBy w' none →
      ∃ X', AhAt X' w' v' (rows ++ [r]) ∧ Fr X w w' X' ∧ (∃ p n c, v' = .slice (some p) n c) ∧ (∀ g, X' g → g < w'.heap.size) ∧ (∀ g, g < w.heap.size → va.ownBlock ≠ some g → w'.heap[g]? = w.heap[g]?) ∧ (∀ g, X' g → X g ∨ w.heap.size < g) := by
    intro v' w' ho hg
    rcases ho.2 with ⟨_, h0⟩ | ⟨g, cap, cur, rfl, hb, hh, h1, h2, h3, h4⟩
    · omega
    · have hs' := hg.size
      have hlt : g < w'.heap.size := (Array.getElem?_eq_some_iff.1 hh).1
      refine ⟨fun k => X k ∨ k = g, .inr ⟨g, 0, cap, cur, by rw [List.length_append]; rfl, hh, .inr rfl, by rw [List.length_append]; exact h1, by omega, fun i hi => ?_⟩, ?_, ⟨_, _, _, rfl⟩, fun k hk => ?_, fun k hk _ => ?_, fun k hk => ?_⟩
      · have hi' : i < rows.length + 1 := by simpa using hi
        have : cur.toList[i]? = (rows.map Rw.v ++ [r.v])[i]? := by rw [← h4, List.getElem?_take, if_pos (by omega)]
        rw [Nat.zero_add, ← Array.getElem?_toList, this]
        have e : rows.map Rw.v ++ [r.v] = (rows ++ [r]).map Rw.v := by simp
        rw [e, List.getElem?_map, List.getElem?_eq_getElem hi]
        rfl
      · refine ⟨hg.os, hg.tape, hg.output, by omega, fun k hk hx => (hg.block k (by omega) (by simp)).trans (hal.block k hk), fun k hk => .inl hk, fun k hk hx => ?_⟩
        rcases hx with hx | rfl
        · exact hx
        · omega
      · rcases hk with hk | rfl
        · have := hxb k hk; omega
        · exact hlt
      · exact (hg.block k (by omega) (by simp)).trans (hal.block k hk)
      · rcases hk with hk | rfl
        · exact .inl hk
        · exact .inr (by omega)
  rcases h with ⟨rfl, rfl⟩ | ⟨g, off, cap, cur, rfl, hb, hX, h1, h2, h3⟩
  · obtain ⟨v', w', hr, ho, hg, _⟩ := run_append_own (P := Tryz.prog) (w := w.alloc (.cells #[r.v] 24)) (w.heap.size + 1) 27 ty 24 i0 (.slice none 0 0) 1 24 Tryz.underlying27 hi hz0 hz1 hz2 rfl (by decide) (.slice none 0 0) 0 [] (World.ownsRow_nil _ _ _ _) ⟨w.heap.size, 0, none⟩ 1 1 [r.v] rfl hnew hone (by unfold maxLen; omega) (by omega) (by omega)
    obtain ⟨X', a1, a2⟩ := hrow (by simpa using ho) hg
    exact ⟨v', w', X', hr, a1, a2⟩
  · have hbA : (w.alloc (.cells #[r.v] 24)).heap[g]? = some (.cells cur 24 (0, 0)) := (hal.block g (hxb g hX)).trans hb
    have hcA : ∀ j, (w.alloc (.cells #[r.v] 24)).cell? ⟨g, j, none⟩ = cur[j]? := Lib.cell_of_heap hbA
    by_cases hroom : rows.length + 1 ≤ cap
    · have hr := run_append_room_cells (P := Tryz.prog) (w.alloc (.cells #[r.v] 24)) 27 ty 24 i0 Tryz.underlying27 hi g off rows.length cap ⟨w.heap.size, 0, none⟩ 1 1 [r.v] (by rw [hz1]; rfl) hnew hone hroom (fun j hj => by
        obtain rfl : j = 0 := by simpa using hj
        rw [hz1, hcA, Array.getElem?_eq_getElem (by omega)]
        rfl) (fun j _ => Lib.frozen_of_heap hbA _)
      rw [hz1, Nat.mul_one] at hr
      have hfr : Fr X w ((w.alloc (.cells #[r.v] 24)).setCells g (off + rows.length) [r.v]) X := (Fr.quiet hal).trans (Fr.sets _ _ hX)
      refine ⟨_, _, X, hr, .inr ⟨g, off, cap, cur.setIfInBounds (off + rows.length) r.v, by rw [List.length_append]; rfl, ?_, hX, by rw [List.length_append]; exact hroom, by simpa using h2, fun i hi => ?_⟩, hfr, ⟨_, _, _, rfl⟩, fun k hk => ?_, fun k hk hne => ?_, fun k hk => .inl hk⟩
      · show ((w.alloc (.cells #[r.v] 24)).setCell ⟨g, off + rows.length, none⟩ r.v).heap[g]? = _
        exact heap_setCell_same _ _ _ _ _ _ hbA
      · rw [Array.getElem?_setIfInBounds]
        by_cases e : i = rows.length
        · subst e
          rw [if_pos rfl, if_pos (by omega)]
          simp
        · have hi' : i < rows.length := by simp at hi; omega
          rw [if_neg (by omega), h3 i hi']
          simp [List.getElem_append_left hi']
      · have := hfr.size; have := hxb k hk; omega
      · show ((w.alloc (.cells #[r.v] 24)).setCell ⟨g, off + rows.length, none⟩ r.v).heap[k]? = _
        rw [Below.heap_setCell _ _ _ _ (fun e => hne (by rw [show k = g from e]; rfl))]
        exact hal.block k hk
    · obtain ⟨v', w', hr, ho, hg⟩ := run_append_arg_grows (P := Tryz.prog) (w.alloc (.cells #[r.v] 24)) 27 ty 24 i0 (.slice none 0 0) 1 24 Tryz.underlying27 hi hz0 hz1 hz2 rfl (by decide) ⟨g, off, none⟩ rows.length cap (rows.map Rw.v) (by simp) (fun j u hj => by
        obtain ⟨hjl, hju⟩ := List.getElem?_eq_some_iff.1 hj
        have hjl' : j < rows.length := by simpa using hjl
        rw [Addr.add_lit, hcA, h3 j hjl', ← hju]
        simp) ⟨w.heap.size, 0, none⟩ 1 1 [r.v] rfl hnew (by omega) (by unfold maxLen; omega) (by omega)
      rw [hsz] at ho
      obtain ⟨X', a1, a2⟩ := hrow ho hg
      exact ⟨v', w', X', hr, a1, a2⟩
end Go.Proofs.YtfobcnhibhbbaaaGreatDoor.Ev.Xp
