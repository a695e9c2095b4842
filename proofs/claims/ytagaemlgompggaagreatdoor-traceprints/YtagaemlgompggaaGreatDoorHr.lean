/- What trace.Parse makes of a text; what lies in memory meanwhile. -/
import Derived.Test.YtagaemlgompggaaGreatDoorHq
namespace Go.Proofs.YtagaemlgompggaaGreatDoor
open Go.RowKit
set_option maxRecDepth 100000

/-- The numbers of a text's lines, each behind the word 'in'. -/
def insN : Nat → ByteArray → Option (List (List Int))
  | 0, s => if s.size = 0 then some [] else none
  | f + 1, s => if s.size = 0 then some [] else match readN s inB with | some ns => (insN f (restOf s)).map (ns :: ·) | none => none
theorem insN_nil {s : ByteArray} (f : Nat) (h : s.size = 0) : insN f s = some [] := by cases f <;> simp [insN, h]
theorem insN_some {s : ByteArray} {ns : List Int} (f : Nat) (h : s.size ≠ 0) (hr : readN s inB = some ns) : insN (f + 1) s = (insN f (restOf s)).map (ns :: ·) := by
  simp [insN, h, hr]
theorem insN_none {s : ByteArray} (f : Nat) (h : s.size ≠ 0) (hr : readN s inB = none) : insN (f + 1) s = none := by
  simp [insN, h, hr]
theorem restOf_le (s : ByteArray) : (restOf s).size ≤ s.size := by
  show (Lib.cut s.data.toList [10]).2.1.toArray.size ≤ s.data.size
  rw [List.size_toArray, ← Array.length_toList]
  unfold Lib.cut
  split
  · simp [List.length_drop]
  · simp
theorem restOf_lt {s : ByteArray} (h0 : s.size ≠ 0) (he : endsOf s = true) : (restOf s).size < s.size := by
  have h1 : s.data.toList.length ≠ 0 := by rw [Array.length_toList]; exact h0
  show (Lib.cut s.data.toList [10]).2.1.toArray.size < s.data.size
  rw [List.size_toArray, ← Array.length_toList]
  unfold endsOf at he
  unfold Lib.cut at he ⊢
  split
  · simp only [List.length_drop, List.length_cons, List.length_nil]
    omega
  · rename_i h
    rw [if_neg h] at he
    cases he
theorem readN_ends {s f : ByteArray} {ns : List Int} (h : readN s f = some ns) : endsOf s = true := by
  unfold readN at h
  split at h
  · split at h
    · rename_i h2; exact h2.1
    · cases h
  · cases h

/-- A list of numbers, in a block of its own. -/
def Ints3 (w : World) (r : Row) : Prop := (r.at' = none ∧ r.ns = [] ∧ r.cap = 0) ∨ ∃ g c fz, r.at' = some ⟨g, 0, none⟩ ∧ w.heap[g]? = some (.cells c 3 fz) ∧ ∀ i (hi : i < r.ns.length), c[i]? = some (.int .i64 r.ns[i])
theorem Ints3.kept {w w' : World} {r : Row} {b : Nat} (h : Ints3 w r) (hk : Lib.OthersKept 22 (some b) w w') (hb : ∀ c fz, w.heap[b]? ≠ some (.cells c 3 fz)) : Ints3 w' r := by
  rcases h with h | ⟨g, c, fz, h1, h2, h3⟩
  · exact .inl h
  · refine .inr ⟨g, c, fz, h1, hk g _ h2 ?_ ?_, h3⟩
    · rintro e
      cases e
      exact hb _ _ h2
    · rintro c' fz' e
      cases e
theorem Ints3.ints {w : World} {r : Row} (h : Ints3 w r) : IntsAt w r.at' r.ns ∧ (r.at' = none → r.cap = 0) := by
  rcases h with ⟨h1, h2, h3⟩ | ⟨g, c, fz, h1, h2, h3⟩
  · exact ⟨fun h => by rw [h2] at h; simp at h, fun _ => h3⟩
  · refine ⟨fun _ => ⟨g, 0, h1, fun i hi => ?_⟩, fun h => by rw [h1] at h; cases h⟩
    rw [Nat.zero_add, Lib.cell_of_heap h2]
    exact h3 i hi
theorem ints3_of {w : World} {base : Nat} {v : Value} {ns : List Int} (h : w.ownsRow base 3 1 v ns.length (ns.map (Value.int .i64))) : ∃ r : Row, v = r.v ∧ r.ns = ns ∧ Ints3 w r := by
  rcases h.2 with ⟨rfl, h0⟩ | ⟨g, cap, cur, rfl, hg, hh, hn, hm, hs, ht⟩
  · have : ns = [] := List.length_eq_zero_iff.1 h0
    subst this
    exact ⟨⟨none, [], 0⟩, rfl, rfl, .inl ⟨rfl, rfl, rfl⟩⟩
  · refine ⟨⟨some ⟨g, 0, none⟩, ns, cap⟩, rfl, rfl, .inr ⟨g, cur, _, rfl, hh, fun i hi => ?_⟩⟩
    have e : (cur.toList.take (ns.length * 1))[i]? = (ns.map (Value.int .i64))[i]? := by rw [ht]
    rw [List.getElem?_take_of_lt (by simp at hi; omega), List.getElem?_map, List.getElem?_eq_getElem hi] at e
    rw [← Array.getElem?_toList]
    exact e

/-- What lies in memory while a text is parsed. -/
structure Pst (w0 wr : World) (s : Row) (iv : Value) (rws : List Row) : Prop where
  res : wr.heap[w0.heap.size]? = some (.cells #[.slice none 0 0, .slice none 0 0] 25 (0, 0))
  tr : wr.heap[w0.heap.size + 1]? = some (.cells #[s.v, iv] 25 (0, 0))
  own : wr.ownsRow w0.heap.size 22 1 iv rws.length (rws.map Row.v)
  st : Ints3 wr s
  ins : ∀ r ∈ rws, Ints3 wr r
  bel : Below w0.heap.size w0 wr
theorem Pst.no3 {w0 wr : World} {s : Row} {iv : Value} {rws : List Row} (h : Pst w0 wr s iv rws) : ∀ c fz, wr.heap[w0.heap.size + 1]? ≠ some (.cells c 3 fz) := by
  intro c fz e
  rw [h.tr] at e
  simp at e
theorem Pst.size {w0 wr : World} {s : Row} {iv : Value} {rws : List Row} (h : Pst w0 wr s iv rws) : w0.heap.size + 2 ≤ wr.heap.size := by
  have := (Array.getElem?_eq_some_iff.1 h.tr).1
  omega
theorem Pst.call {w0 wr w1 : World} {s : Row} {iv : Value} {rws : List Row} (h : Pst w0 wr s iv rws) (hb : Below wr.heap.size wr w1) : Pst w0 w1 s iv rws := by
  have hk : Lib.OthersKept 22 (some (w0.heap.size + 1)) wr w1 := others_of hb (Nat.le_refl _)
  have hsz := h.size
  exact ⟨(hb.block _ (by omega)).trans h.res, (hb.block _ (by omega)).trans h.tr, own_below h.own hb, h.st.kept hk h.no3, fun r hr => (h.ins r hr).kept hk h.no3, h.bel.trans (hb.mono (by omega))⟩
theorem Pst.start {w0 wr : World} {s r : Row} {iv : Value} {rws : List Row} (h : Pst w0 wr s iv rws) (hr : Ints3 wr r) : Pst w0 (wr.setCell ⟨w0.heap.size + 1, 0, none⟩ r.v) r iv rws := by
  have hk : Lib.OthersKept 22 (some (w0.heap.size + 1)) wr (wr.setCell ⟨w0.heap.size + 1, 0, none⟩ r.v) := (Lib.OthersKept.refl 22 (some (w0.heap.size + 1)) wr).setCell ⟨w0.heap.size + 1, 0, none⟩ rfl _
  refine ⟨?_, ?_, ?_, hr.kept hk h.no3, fun q hq => (h.ins q hq).kept hk h.no3, h.bel.setCell (by simp) _⟩
  · rw [heap_setCell_other _ _ _ _ (by simp)]; exact h.res
  · rw [heap_setCell_same _ _ _ _ _ _ h.tr]; rfl
  · exact ownsRow_setCell_other h.own (Lib.ownBlock_ne h.own h.tr (by decide)) _
theorem Pst.put {w0 w1 w2 : World} {s r : Row} {iv iv' : Value} {rws : List Row} (h : Pst w0 w1 s iv rws) (hr : Ints3 w1 r) (o : Obj) (hg : (w1.alloc o).grownBy w2 iv.ownBlock) (hown : w2.ownsRow w0.heap.size 22 1 iv' (rws ++ [r]).length ((rws ++ [r]).map Row.v)) :
    Pst w0 (w2.setCell ⟨w0.heap.size + 1, 1, none⟩ iv') s iv' (rws ++ [r]) := by
  have h1 := h.call (bal (Below.refl _ _) o)
  have hk1 : Lib.OthersKept 22 (some (w0.heap.size + 1)) (w1.alloc o) w2 := (Lib.OthersKept.refl _ _ _).grown hg (own_kind h1.own)
  have hne := Lib.ownBlock_ne h1.own h1.tr (by decide)
  have hsz := h1.size
  have t2 : w2.heap[w0.heap.size + 1]? = some (.cells #[s.v, iv] 25 (0, 0)) := (hg.block _ (by omega) (fun e => hne e.symm)).trans h1.tr
  have hne0 := Lib.ownBlock_ne h1.own h1.res (by decide)
  have hk : Lib.OthersKept 22 (some (w0.heap.size + 1)) (w1.alloc o) (w2.setCell ⟨w0.heap.size + 1, 1, none⟩ iv') := hk1.setCell ⟨w0.heap.size + 1, 1, none⟩ rfl _
  have hr1 : Ints3 (w1.alloc o) r := hr.kept (b := w0.heap.size + 1) (others_of (bal (Below.refl _ _) o) (Nat.le_refl _)) h.no3
  refine ⟨?_, ?_, ?_, h1.st.kept hk h1.no3, fun q hq => ?_, ?_⟩
  · rw [heap_setCell_other _ _ _ _ (by simp)]; exact (hg.block _ (by omega) (fun e => hne0 e.symm)).trans h1.res
  · rw [heap_setCell_same _ _ _ _ _ _ t2]; rfl
  · exact ownsRow_setCell_other hown (Lib.ownBlock_ne hown t2 (by decide)) _
  · rcases List.mem_append.1 hq with hq | hq
    · exact (h1.ins q hq).kept hk h1.no3
    · rw [List.mem_singleton.1 hq]; exact hr1.kept hk h1.no3
  · exact (h1.bel.grown hg (by omega) (fun j hj => (h1.own.lt j hj).1)).setCell (by simp) _
end Go.Proofs.YtagaemlgompggaaGreatDoor
