/- What comes of a model: the words of all nodes. -/
import Derived.Test.YtfobcnhibhbbaaaGreatDoorEc
namespace Go.Proofs.YtfobcnhibhbbaaaGreatDoor.Ev
open Go.RowKit
set_option maxRecDepth 100000

theorem ints_next {b off : Nat} {s : Int} {rest : List Int} (w0 : World) (h : IntsAt w0 (some ⟨b, off, none⟩) (s :: rest)) : IntsAt w0 (some ⟨b, off + 1, none⟩) rest := by
  intro _
  obtain ⟨b', off', hp, hc⟩ := h (by simp)
  obtain ⟨rfl, rfl⟩ : b = b' ∧ off = off' := by injection hp with hp; injection hp with h1 h2; exact ⟨h1, h2⟩
  refine ⟨b, off + 1, rfl, fun i hi => ?_⟩
  have := hc (i + 1) (by simp; omega)
  simp only [List.getElem_cons_succ] at this
  rw [Nat.add_assoc, Nat.add_comm 1 i]
  exact this

set_option maxRecDepth 100000 in
set_option maxHeartbeats 2000000 in
theorem stands3_any (v x y z n : Int) (B4 B5 : Nat) (s : Int) (rest : List Int) (p : Option Addr) (cap : Nat) (hcap : rest.length + 1 ≤ cap) (hmax : cap ≤ maxLen) (w : World) (hI : IntsAt w p (s :: rest))
    (hB : w.cell? ⟨B4, 0, none⟩ = some (.slice p (rest.length + 1) cap)) (hf : w.frozen? ⟨B4, 0, none⟩ = false) :
    Calls Tryz.prog 79 #[.agg #[.int .i64 3, .int .i64 v, .int .i64 x, .int .i64 y, .int .i64 z, .int .i64 n], .pointer (some ⟨B4, 0, none⟩), .pointer (some ⟨B5, 0, none⟩)] w fun e w' =>
      e = .returned (.int .i64 s) ∧ ∃ p' cap', w' = ((w.alloc (.cells #[.int .i64 3, .int .i64 v, .int .i64 x, .int .i64 y, .int .i64 z, .int .i64 n] 62)).setCell ⟨B4, 0, none⟩ (.slice p' rest.length cap')).drew ∧ (∀ w0, IntsAt w0 p (s :: rest) → IntsAt w0 p' rest) ∧ rest.length ≤ cap' ∧ cap' ≤ cap := by
  obtain ⟨b, off, rfl, hc⟩ := hI (by simp)
  have d0 := hc 0 (by simp)
  simp only [List.getElem_cons_zero, Nat.add_zero] at d0
  have HT : Hid (∀ w0, IntsAt w0 (some ⟨b, off, none⟩) (s :: rest) → IntsAt w0 (some ⟨b, off + 1, none⟩) rest) := ints_next
  have HT0 : Hid (rest.length = 0 → ∀ w0, IntsAt w0 (some ⟨b, off, none⟩) rest) := fun h _ h0 => by omega
  have k0 := past1 d0 (.cells #[.int .i64 3, .int .i64 v, .int .i64 x, .int .i64 y, .int .i64 z, .int .i64 n] 62)
  have k4 := past1 hB (.cells #[.int .i64 3, .int .i64 v, .int .i64 x, .int .i64 y, .int .i64 z, .int .i64 n] 62)
  have kf : (w.alloc (.cells #[.int .i64 3, .int .i64 v, .int .i64 x, .int .i64 y, .int .i64 z, .int .i64 n] 62)).frozen? ⟨B4, 0, none⟩ = false := frozen_later (bal (Below.refl _ _) _) hB hf
  unfold maxLen at hmax
  clear hI hc hB hf d0
  generalize rest.length = len at *
  go_enter Tryz.func79, Tryz.ntmps79
  go_wp2
  generalize hwa : w.alloc (.cells #[.int .i64 3, .int .i64 v, .int .i64 x, .int .i64 y, .int .i64 z, .int .i64 n] 62) = wa at *
  have Hwa := hide hwa
  clear hwa
  go_region
  all_goals
    go_wp2
    all_goals
      go_ret
      first
        | exact ⟨rfl, some ⟨b, off, none⟩, 0, by rw [Hwa.out], (fun w0 _ => HT0.out (by omega) w0), by omega, by omega⟩
        | exact ⟨rfl, some ⟨b, off + 1, none⟩, cap - 1, by rw [Hwa.out], (fun w0 h0 => HT.out w0 h0), by omega, by omega⟩

set_option maxRecDepth 100000 in
set_option maxHeartbeats 2000000 in
theorem stands2_any (v x y z n : Int) (B4 B5 : Nat) (s : Int) (rest : List Int) (p : Option Addr) (cap : Nat) (hcap : rest.length + 1 ≤ cap) (hmax : cap ≤ maxLen) (w : World) (hI : IntsAt w p (s :: rest))
    (hB : w.cell? ⟨B5, 0, none⟩ = some (.slice p (rest.length + 1) cap)) (hf : w.frozen? ⟨B5, 0, none⟩ = false) :
    Calls Tryz.prog 79 #[.agg #[.int .i64 2, .int .i64 v, .int .i64 x, .int .i64 y, .int .i64 z, .int .i64 n], .pointer (some ⟨B4, 0, none⟩), .pointer (some ⟨B5, 0, none⟩)] w fun e w' =>
      e = .returned (.int .i64 s) ∧ ∃ p' cap', w' = ((w.alloc (.cells #[.int .i64 2, .int .i64 v, .int .i64 x, .int .i64 y, .int .i64 z, .int .i64 n] 62)).setCell ⟨B5, 0, none⟩ (.slice p' rest.length cap')).drew ∧ (∀ w0, IntsAt w0 p (s :: rest) → IntsAt w0 p' rest) ∧ rest.length ≤ cap' ∧ cap' ≤ cap := by
  obtain ⟨b, off, rfl, hc⟩ := hI (by simp)
  have d0 := hc 0 (by simp)
  simp only [List.getElem_cons_zero, Nat.add_zero] at d0
  have HT : Hid (∀ w0, IntsAt w0 (some ⟨b, off, none⟩) (s :: rest) → IntsAt w0 (some ⟨b, off + 1, none⟩) rest) := ints_next
  have HT0 : Hid (rest.length = 0 → ∀ w0, IntsAt w0 (some ⟨b, off, none⟩) rest) := fun h _ h0 => by omega
  have k0 := past1 d0 (.cells #[.int .i64 2, .int .i64 v, .int .i64 x, .int .i64 y, .int .i64 z, .int .i64 n] 62)
  have k4 := past1 hB (.cells #[.int .i64 2, .int .i64 v, .int .i64 x, .int .i64 y, .int .i64 z, .int .i64 n] 62)
  have kf : (w.alloc (.cells #[.int .i64 2, .int .i64 v, .int .i64 x, .int .i64 y, .int .i64 z, .int .i64 n] 62)).frozen? ⟨B5, 0, none⟩ = false := frozen_later (bal (Below.refl _ _) _) hB hf
  unfold maxLen at hmax
  clear hI hc hB hf d0
  generalize rest.length = len at *
  go_enter Tryz.func79, Tryz.ntmps79
  go_wp2
  generalize hwa : w.alloc (.cells #[.int .i64 2, .int .i64 v, .int .i64 x, .int .i64 y, .int .i64 z, .int .i64 n] 62) = wa at *
  have Hwa := hide hwa
  clear hwa
  go_region
  all_goals
    go_wp2
    all_goals
      go_ret
      first
        | exact ⟨rfl, some ⟨b, off, none⟩, 0, by rw [Hwa.out], (fun w0 _ => HT0.out (by omega) w0), by omega, by omega⟩
        | exact ⟨rfl, some ⟨b, off + 1, none⟩, cap - 1, by rw [Hwa.out], (fun w0 h0 => HT.out w0 h0), by omega, by omega⟩

set_option maxHeartbeats 400000 in
theorem stands1_any (v x y z n : Int) (B4 B5 : Nat) (w : World) :
    Calls Tryz.prog 79 #[.agg #[.int .i64 1, .int .i64 v, .int .i64 x, .int .i64 y, .int .i64 z, .int .i64 n], .pointer (some ⟨B4, 0, none⟩), .pointer (some ⟨B5, 0, none⟩)] w fun e w' => e = .returned (.int .i64 n) ∧ Below w.heap.size w w' := by
  go_enter Tryz.func79, Tryz.ntmps79
  go_wp2
  go_ret
  exact ⟨rfl, bal (Below.refl _ _) _⟩

/-- Where all lies while the words are made. -/
structure WS (w wr : World) (m : Mv) (n g B4 B5 : Nat) (cur : List Int) (v4 v5 : Value) : Prop where
  below : Below w.heap.size w wr
  box : Box wr w.heap.size m n
  row : IRow wr g cur
  b4 : wr.cell? ⟨B4, 0, none⟩ = some v4
  f4 : wr.frozen? ⟨B4, 0, none⟩ = false
  b5 : wr.cell? ⟨B5, 0, none⟩ = some v5
  f5 : wr.frozen? ⟨B5, 0, none⟩ = false
  h4 : w.heap.size < B4
  h5 : B4 < B5
  hg : B5 < g
theorem WS.later {w wr w1 : World} {m : Mv} {n g B4 B5 : Nat} {cur : List Int} {v4 v5 : Value} (h : WS w wr m n g B4 B5 cur v4 v5) (hb : Below wr.heap.size wr w1) : WS w w1 m n g B4 B5 cur v4 v5 :=
  ⟨bthen h.below hb, h.box.later hb, h.row.later hb, cell_later hb h.b4, frozen_later hb h.b4 h.f4, cell_later hb h.b5, frozen_later hb h.b5 h.f5, h.h4, h.h5, h.hg⟩
theorem WS.drew {w wr : World} {m : Mv} {n g B4 B5 : Nat} {cur : List Int} {v4 v5 : Value} (h : WS w wr m n g B4 B5 cur v4 v5) : WS w wr.drew m n g B4 B5 cur v4 v5 :=
  ⟨h.below.drew, h.box, h.row, h.b4, h.f4, h.b5, h.f5, h.h4, h.h5, h.hg⟩
theorem WS.set4 {w wr : World} {m : Mv} {n g B4 B5 : Nat} {cur : List Int} {v4 v5 : Value} (h : WS w wr m n g B4 B5 cur v4 v5) (u : Value) : WS w (wr.setCell ⟨B4, 0, none⟩ u) m n g B4 B5 cur u v5 := by
  have e1 := h.h4
  have e2 := h.h5
  have e3 := h.hg
  obtain ⟨q0, q1, q2, q3, q4⟩ := h.box
  exact ⟨h.below.setCell (show w.heap.size ≤ B4 from by omega) _, ⟨keepOther (by omega) q0, keepOther (by omega) q1, keepOther (by omega) q2, keepOther (by omega) q3, keepOther (by omega) q4⟩, h.row.other (by omega) 0 u,
    World.cell?_setCell_same _ _ _ h.b4, (World.frozen?_setCell _ _ _ _).trans h.f4, keepOther (by omega) h.b5, (World.frozen?_setCell _ _ _ _).trans h.f5, e1, e2, e3⟩
theorem WS.set5 {w wr : World} {m : Mv} {n g B4 B5 : Nat} {cur : List Int} {v4 v5 : Value} (h : WS w wr m n g B4 B5 cur v4 v5) (u : Value) : WS w (wr.setCell ⟨B5, 0, none⟩ u) m n g B4 B5 cur v4 u := by
  have e1 := h.h4
  have e2 := h.h5
  have e3 := h.hg
  obtain ⟨q0, q1, q2, q3, q4⟩ := h.box
  exact ⟨h.below.setCell (show w.heap.size ≤ B5 from by omega) _, ⟨keepOther (by omega) q0, keepOther (by omega) q1, keepOther (by omega) q2, keepOther (by omega) q3, keepOther (by omega) q4⟩, h.row.other (by omega) 0 u,
    keepOther (by omega) h.b4, (World.frozen?_setCell _ _ _ _).trans h.f4, World.cell?_setCell_same _ _ _ h.b5, (World.frozen?_setCell _ _ _ _).trans h.f5, e1, e2, e3⟩
theorem WS.put {w wr : World} {m : Mv} {n g B4 B5 : Nat} {cur : List Int} {v4 v5 : Value} (h : WS w wr m n g B4 B5 cur v4 v5) (k : Nat) (x : Int) : WS w (wr.setCell ⟨g, k, none⟩ (.int .i64 x)) m n g B4 B5 (cur.set k x) v4 v5 := by
  have e1 := h.h4
  have e2 := h.h5
  have e3 := h.hg
  obtain ⟨q0, q1, q2, q3, q4⟩ := h.box
  exact ⟨h.below.setCell (show w.heap.size ≤ g from by omega) _, ⟨keepOther (by omega) q0, keepOther (by omega) q1, keepOther (by omega) q2, keepOther (by omega) q3, keepOther (by omega) q4⟩, h.row.set k x,
    keepOther (by omega) h.b4, (World.frozen?_setCell _ _ _ _).trans h.f4, keepOther (by omega) h.b5, (World.frozen?_setCell _ _ _ _).trans h.f5, e1, e2, e3⟩

/-- The words so far, and room for the others. -/
def curL (ns : List Nd) (sts ins : List Int) (k : Nat) : List Int := vals ns sts ins k ++ List.replicate (ns.length - k) 0
theorem curL_len {ns : List Nd} {sts ins : List Int} {k : Nat} (hk : k ≤ ns.length) : (curL ns sts ins k).length = ns.length := by
  unfold curL; rw [List.length_append, vals_len, List.length_replicate]; omega
theorem curL_set {ns : List Nd} {sts ins : List Int} {k : Nat} (hk : k < ns.length) {x : Int} (h : valAt ns sts ins (vals ns sts ins k) k = x) : (curL ns sts ins k).set k x = curL ns sts ins (k + 1) := by
  unfold curL
  have e1 : ns.length - k = (ns.length - (k + 1)) + 1 := by omega
  rw [e1, List.replicate_succ, List.set_append_right _ _ (by rw [vals_len]; omega), vals_len, Nat.sub_self, List.set_cons_zero]
  simp only [vals]
  rw [h, List.append_assoc]
  rfl
theorem curL_get {ns : List Nd} {sts ins : List Int} {k j : Nat} (hj : j < k) : (curL ns sts ins k).getD j 0 = (vals ns sts ins k).getD j 0 := by
  unfold curL
  simp only [List.getD]
  rw [List.getElem?_append_left (by rw [vals_len]; exact hj)]
theorem curL_opv {ns : List Nd} {sts ins : List Int} {k : Nat} {t i x : Int} (h : i < t → 0 ≤ x ∧ x < k) : opv (curL ns sts ins k) t i x = opv (vals ns sts ins k) t i x := by
  unfold opv
  by_cases hi : i < t
  · rw [if_pos hi, if_pos hi, curL_get (by have := h hi; omega)]
  · rw [if_neg hi, if_neg hi]

theorem drop_cons {l : List Int} {i : Nat} (h : i < l.length) : l.drop i = l.getD i 0 :: l.drop (i + 1) := by
  rw [List.drop_eq_getElem_cons h, getD_at h]
theorem ahead_yes {ns : List Nd} {kind : Int} {k : Nat} (h : isK ns kind k = true) : ahead ns kind (k + 1) = ahead ns kind k + 1 := by
  unfold ahead; rw [sel_yes h]; simp
theorem ahead_no {ns : List Nd} {kind : Int} {k : Nat} (h : isK ns kind k = false) : ahead ns kind (k + 1) = ahead ns kind k := by
  unfold ahead; rw [sel_no h]

/-- A list that came in, from a place on. -/
def SL (w : World) (v : Value) (l : List Int) : Prop := ∃ p cap, v = .slice p l.length cap ∧ IntsAt w p l ∧ l.length ≤ cap ∧ cap ≤ maxLen

set_option maxRecDepth 100000 in
set_option maxHeartbeats 8000000 in
theorem words_any2 (m : Mv) (ns : List Nd) (hl : ns.length ≤ 80) (hn : firstN (nodeAtE ns) ns.length = 0) (sts ins : List Int) (hs : wordsE ns 3 sts = 0) (hi : wordsE ns 2 ins = 0) (v4 v5 : Value) (w : World) (hN : NodesAt w m.a0 ns) (hS : SL w v4 sts) (hI : SL w v5 ins) :
    Calls Tryz.prog 62 #[m.val ns.length, v4, v5] w fun e w' => ∃ g, e = .returned (.slice (some ⟨g, 0, none⟩) ns.length ns.length) ∧ IRow w' g (vals ns sts ins ns.length) ∧ Below w.heap.size w w' := by
  have hmf : ∀ (fn : Fn) (first cap : Array Value) (w : World), (Instr.makeFunc fn first cap).run Tryz.prog w = .ok (.func fn first cap) w := fun _ _ _ _ => rfl
  obtain ⟨i0, hii, hz0, hz1, hz2⟩ := info_parts info3
  obtain ⟨a0, c0, a1, l1, c1, a2, l2, c2, a3, l3, c3, a4, l4, c4⟩ := m
  simp only at hN
  have HI2 := hide (words_zero hi).2
  have HS3 := hide (words_zero hs).2
  have HVW := hide (vals_isW hn hs hi)
  have HNd := hide (firstN_zero.1 hn)
  have HN := hide hN
  have HS := hide hS
  have HI := hide hI
  clear hn hs hi hN hS hI
  obtain ⟨p4, k4, rfl, hI4, hc41, hc42⟩ := HS.out
  obtain ⟨p5, k5, rfl, hI5, hc51, hc52⟩ := HI.out
  clear hI4 hI5
  have hb3 : Below w.heap.size w (((w.alloc (.cells (Mv.cells ⟨a0, c0, a1, l1, c1, a2, l2, c2, a3, l3, c3, a4, l4, c4⟩ ns.length) 26)).alloc (.cells #[.slice p4 sts.length k4] 24)).alloc (.cells #[.slice p5 ins.length k5] 24)) := bal (bal (bal (Below.refl _ _) _) _) _
  have HBx3 : Hid (Box (((w.alloc (.cells (Mv.cells ⟨a0, c0, a1, l1, c1, a2, l2, c2, a3, l3, c3, a4, l4, c4⟩ ns.length) 26)).alloc (.cells #[.slice p4 sts.length k4] 24)).alloc (.cells #[.slice p5 ins.length k5] 24)) w.heap.size ⟨a0, c0, a1, l1, c1, a2, l2, c2, a3, l3, c3, a4, l4, c4⟩ ns.length) := by
    have h := Box.new w ⟨a0, c0, a1, l1, c1, a2, l2, c2, a3, l3, c3, a4, l4, c4⟩ ns.length
    exact h.later (bal (bal (Below.refl _ _) _) _)
  have b4 : (((w.alloc (.cells (Mv.cells ⟨a0, c0, a1, l1, c1, a2, l2, c2, a3, l3, c3, a4, l4, c4⟩ ns.length) 26)).alloc (.cells #[.slice p4 sts.length k4] 24)).alloc (.cells #[.slice p5 ins.length k5] 24)).cell? ⟨w.heap.size + 1, 0, none⟩ = some (.slice p4 sts.length k4) := by simp [go_sem]
  have f4 : (((w.alloc (.cells (Mv.cells ⟨a0, c0, a1, l1, c1, a2, l2, c2, a3, l3, c3, a4, l4, c4⟩ ns.length) 26)).alloc (.cells #[.slice p4 sts.length k4] 24)).alloc (.cells #[.slice p5 ins.length k5] 24)).frozen? ⟨w.heap.size + 1, 0, none⟩ = false := by simp [go_sem]
  have b5 : (((w.alloc (.cells (Mv.cells ⟨a0, c0, a1, l1, c1, a2, l2, c2, a3, l3, c3, a4, l4, c4⟩ ns.length) 26)).alloc (.cells #[.slice p4 sts.length k4] 24)).alloc (.cells #[.slice p5 ins.length k5] 24)).cell? ⟨w.heap.size + 1 + 1, 0, none⟩ = some (.slice p5 ins.length k5) := by simp [go_sem]
  have f5 : (((w.alloc (.cells (Mv.cells ⟨a0, c0, a1, l1, c1, a2, l2, c2, a3, l3, c3, a4, l4, c4⟩ ns.length) 26)).alloc (.cells #[.slice p4 sts.length k4] 24)).alloc (.cells #[.slice p5 ins.length k5] 24)).frozen? ⟨w.heap.size + 1 + 1, 0, none⟩ = false := by simp [go_sem]
  have HB3 := hide hb3
  clear hb3
  go_enter Tryz.func62, Tryz.ntmps62
  go_wp2_with (at_make; refine wpList_make_full _ rfl _ _ 24 rfl (w.heap.size + 1 + 1 + 1) 3 i0 (.int .i64 0) 1 Tryz.underlying24 hii hz0 hz1 .i64 .i64 _ _ ns.length rfl rfl rfl rfl (by rw [hz2]; omega) (by unfold maxLen; omega) (by simp) ?_)
  intro w3 hownM hgrowM
  have hb := (Below.refl _ _).grown hgrowM (Nat.le_refl _) (fun _ h => by cases h)
  have hR1 : IRow w3 (w.heap.size + 1 + 1 + 1) (curL ns sts ins 0) := by
    intro j hj
    have hj' : j < ns.length := by rw [curL_len (by omega)] at hj; exact hj
    refine ⟨?_, hownM.frozenAt j⟩
    rw [hownM.cellAt j (by omega)]
    simp [toList_madeCells_one, hj', curL, vals]
  have HC0 : Hid (WS w w3 ⟨a0, c0, a1, l1, c1, a2, l2, c2, a3, l3, c3, a4, l4, c4⟩ ns.length (w.heap.size + 1 + 1 + 1) (w.heap.size + 1) (w.heap.size + 1 + 1) (curL ns sts ins 0) (.slice p4 sts.length k4) (.slice p5 ins.length k5)) :=
    ⟨bthen HB3.out hb, HBx3.out.later hb, hR1, cell_later hb b4, frozen_later hb b4 f4, cell_later hb b5, frozen_later hb b5 f5, by omega, by omega, by omega⟩
  have q0 := HC0.out.box.1
  clear hownM hgrowM hR1 hb b4 f4 b5 f5 HB3 HBx3
  generalize hG : w.heap.size + 1 + 1 + 1 = g at *
  generalize hG5 : w.heap.size + 1 + 1 = B5 at *
  generalize hG4 : w.heap.size + 1 = B4 at *
  clear hG hG5 hG4
  go_wp2
  go_loopw [19] (fun i wr => ∃ (k : Nat) (v4 v5 : Value), k ≤ ns.length ∧ i = .int .i64 k ∧ Hid (WS w wr ⟨a0, c0, a1, l1, c1, a2, l2, c2, a3, l3, c3, a4, l4, c4⟩ ns.length g B4 B5 (curL ns sts ins k) v4 v5) ∧ Hid (SL w v4 (sts.drop (ahead ns 3 k))) ∧ Hid (SL w v5 (ins.drop (ahead ns 2 k)))) (fun i _ => ns.length - (intOf i).toNat)
  case atStart => exact ⟨0, _, _, Nat.zero_le _, rfl, HC0, HS, HI⟩
  case round =>
  clear q0 HC0
  obtain ⟨k, v4, v5, hk, rfl, HC, HL4, HL5⟩ := hrel
  have q0 := HC.out.box.1
  by_cases hlt : k < ns.length
  · obtain ⟨nb, noff, rfl, hc⟩ := HN.out (by omega)
    obtain ⟨d0, d1, d2, d3, d4, d5⟩ := hc k hlt
    have x0 := cell_later HC.out.below d0
    have x1 := cell_later HC.out.below d1
    have x2 := cell_later HC.out.below d2
    have x3 := cell_later HC.out.below d3
    have x4 := cell_later HC.out.below d4
    have x5 := cell_later HC.out.below d5
    have hkl : (k : Int) < (ns.length : Int) := by omega
    have HVA : Hid (valAt ns sts ins (vals ns sts ins k) k = if ns[k].kind = 1 then ns[k].n else if ns[k].kind = 2 then ins.getD (ahead ns 2 k) 0 else if ns[k].kind = 3 then sts.getD (ahead ns 3 k) 0
      else madeE ns[k].kind ns[k].width (opv (vals ns sts ins k) (takes ns[k].kind) 0 ns[k].a) (opv (vals ns sts ins k) (takes ns[k].kind) 1 ns[k].b) (opv (vals ns sts ins k) (takes ns[k].kind) 2 ns[k].c) ns[k].n (wds ns (takes ns[k].kind) 0 ns[k].a) (wds ns (takes ns[k].kind) 1 ns[k].b)) := by
      unfold valAt; rw [List.getElem?_eq_getElem hlt]; rfl
    have HIK : Hid (∀ q : Int, isK ns q k = (ns[k].kind == q)) := fun q => isK_at hlt
    have HZ : Hid (nodeE ns k ns[k] = 0) := by have := HNd.out k hlt; rw [nodeAtE_at hlt] at this; exact this
    clear d0 d1 d2 d3 d4 d5 hc
    generalize ns[k] = nd at *
    obtain ⟨kd, v, x, y, z, n⟩ := nd
    simp only at *
    have hkd : 1 ≤ kd ∧ kd ≤ 23 := (node_zero HZ.out).2.1
    have hcase : kd = 1 ∨ kd = 2 ∨ kd = 3 ∨ 4 ≤ kd := by omega
    rcases hcase with k1 | k2 | k3 | k4
    · subst k1
      have HOP := hide (fun w => isOp_any 1 w)
      rw [show btw 1 4 23 = false from by decide] at HOP
      have HV : Hid (valAt ns sts ins (vals ns sts ins k) k = n) := by rw [HVA.out]; simp [Hid]
      have HCS := hide (fun (x : Int) (h : valAt ns sts ins (vals ns sts ins k) k = x) => curL_set hlt h)
      have HK2 : Hid (isK ns 2 k = false) := HIK.out 2
      have HK3 : Hid (isK ns 3 k = false) := HIK.out 3
      have hba : Below wr.heap.size wr (wr.alloc (.cells #[.int .i64 1, .int .i64 v, .int .i64 x, .int .i64 y, .int .i64 z, .int .i64 n] 62)) := bal (Below.refl _ _) _
      have HCa := hide (HC.out.later hba)
      have n0 : (wr.alloc (.cells #[.int .i64 1, .int .i64 v, .int .i64 x, .int .i64 y, .int .i64 z, .int .i64 n] 62)).cell? ⟨wr.heap.size, 0, none⟩ = some (.int .i64 1) := by simp [go_sem]
      have n1 : (wr.alloc (.cells #[.int .i64 1, .int .i64 v, .int .i64 x, .int .i64 y, .int .i64 z, .int .i64 n] 62)).cell? ⟨wr.heap.size, 1, none⟩ = some (.int .i64 v) := by simp [go_sem]
      have n2 : (wr.alloc (.cells #[.int .i64 1, .int .i64 v, .int .i64 x, .int .i64 y, .int .i64 z, .int .i64 n] 62)).cell? ⟨wr.heap.size, 2, none⟩ = some (.int .i64 x) := by simp [go_sem]
      have n3 : (wr.alloc (.cells #[.int .i64 1, .int .i64 v, .int .i64 x, .int .i64 y, .int .i64 z, .int .i64 n] 62)).cell? ⟨wr.heap.size, 3, none⟩ = some (.int .i64 y) := by simp [go_sem]
      have n4 : (wr.alloc (.cells #[.int .i64 1, .int .i64 v, .int .i64 x, .int .i64 y, .int .i64 z, .int .i64 n] 62)).cell? ⟨wr.heap.size, 4, none⟩ = some (.int .i64 z) := by simp [go_sem]
      have n5 : (wr.alloc (.cells #[.int .i64 1, .int .i64 v, .int .i64 x, .int .i64 y, .int .i64 z, .int .i64 n] 62)).cell? ⟨wr.heap.size, 5, none⟩ = some (.int .i64 n) := by simp [go_sem]
      clear hba
      go_wp2_with (first | (go_at_call 49; refine (HOP.out _).mono ?_; rintro e w' ⟨rfl, rfl⟩))
      refine (stands1_any v x y z n B4 B5 _).mono ?_
      rintro e w2 ⟨rfl, hb2⟩
      have HC2 := hide (HCa.out.later hb2)
      obtain ⟨g1, g2⟩ := HC2.out.row k (by rw [curL_len (by omega)]; omega)
      generalize (curL ns sts ins k)[k]'(by rw [curL_len (by omega)]; omega) = old at *
      have HFin := hide (HC2.out.put k n)
      rw [HCS.out _ HV.out] at HFin
      have HM4 : Hid (SL w v4 (sts.drop (ahead ns 3 (k + 1)))) := by rw [ahead_no HK3.out]; exact HL4
      have HM5 : Hid (SL w v5 (ins.drop (ahead ns 2 (k + 1)))) := by rw [ahead_no HK2.out]; exact HL5
      clear hb2 HC2 HCa n0 n1 n2 n3 n4 n5 HC
      go_wp2
      go_roundw
      case rel => first | exact ⟨k + 1, _, _, by omega, by go_num, HFin, HM4, HM5⟩ | ((repeat apply Exists.intro); exact ⟨⟨k + 1, _, _, by omega, by go_num, HFin, HM4, HM5⟩, rfl⟩)
      case measure => simp [intOf]; omega
    · subst k2
      have HOP := hide (fun w => isOp_any 2 w)
      rw [show btw 2 4 23 = false from by decide] at HOP
      have HV : Hid (valAt ns sts ins (vals ns sts ins k) k = ins.getD (ahead ns 2 k) 0) := by rw [HVA.out]; simp [Hid]
      have HCS := hide (fun (x : Int) (h : valAt ns sts ins (vals ns sts ins k) k = x) => curL_set hlt h)
      have HK2 : Hid (isK ns 2 k = true) := HIK.out 2
      have HK3 : Hid (isK ns 3 k = false) := HIK.out 3
      have hin := (HI2.out k hlt HK2.out).1
      have hSL := HL5.out
      rw [drop_cons hin] at hSL
      obtain ⟨p, cap, rfl, hIp, hc1, hc2⟩ := hSL
      simp only [List.length_cons] at *
      have HSt := hide (fun (w2 : World) (hb : Below w.heap.size w w2) (hB : w2.cell? ⟨B5, 0, none⟩ = some (.slice p ((ins.drop (ahead ns 2 k + 1)).length + 1) cap)) (hf : w2.frozen? ⟨B5, 0, none⟩ = false) => stands2_any v x y z n B4 B5 (ins.getD (ahead ns 2 k) 0) (ins.drop (ahead ns 2 k + 1)) p cap hc1 hc2 w2 (hIp.later hb) hB hf)
      generalize ins.getD (ahead ns 2 k) 0 = wv at *
      have hba : Below wr.heap.size wr (wr.alloc (.cells #[.int .i64 2, .int .i64 v, .int .i64 x, .int .i64 y, .int .i64 z, .int .i64 n] 62)) := bal (Below.refl _ _) _
      have HCa := hide (HC.out.later hba)
      have n0 : (wr.alloc (.cells #[.int .i64 2, .int .i64 v, .int .i64 x, .int .i64 y, .int .i64 z, .int .i64 n] 62)).cell? ⟨wr.heap.size, 0, none⟩ = some (.int .i64 2) := by simp [go_sem]
      have n1 : (wr.alloc (.cells #[.int .i64 2, .int .i64 v, .int .i64 x, .int .i64 y, .int .i64 z, .int .i64 n] 62)).cell? ⟨wr.heap.size, 1, none⟩ = some (.int .i64 v) := by simp [go_sem]
      have n2 : (wr.alloc (.cells #[.int .i64 2, .int .i64 v, .int .i64 x, .int .i64 y, .int .i64 z, .int .i64 n] 62)).cell? ⟨wr.heap.size, 2, none⟩ = some (.int .i64 x) := by simp [go_sem]
      have n3 : (wr.alloc (.cells #[.int .i64 2, .int .i64 v, .int .i64 x, .int .i64 y, .int .i64 z, .int .i64 n] 62)).cell? ⟨wr.heap.size, 3, none⟩ = some (.int .i64 y) := by simp [go_sem]
      have n4 : (wr.alloc (.cells #[.int .i64 2, .int .i64 v, .int .i64 x, .int .i64 y, .int .i64 z, .int .i64 n] 62)).cell? ⟨wr.heap.size, 4, none⟩ = some (.int .i64 z) := by simp [go_sem]
      have n5 : (wr.alloc (.cells #[.int .i64 2, .int .i64 v, .int .i64 x, .int .i64 y, .int .i64 z, .int .i64 n] 62)).cell? ⟨wr.heap.size, 5, none⟩ = some (.int .i64 n) := by simp [go_sem]
      clear hba
      go_wp2_with (first | (go_at_call 49; refine (HOP.out _).mono ?_; rintro e w' ⟨rfl, rfl⟩))
      refine (HSt.out _ HCa.out.below HCa.out.b5 HCa.out.f5).mono ?_
      rintro e w2 ⟨rfl, p', cap', rfl, hI2, h1', h2'⟩
      have hI' : IntsAt w p' (ins.drop (ahead ns 2 k + 1)) := hI2 w hIp
      have HC2 := hide (((HCa.out.later (bal (Below.refl _ _) (.cells #[.int .i64 2, .int .i64 v, .int .i64 x, .int .i64 y, .int .i64 z, .int .i64 n] 62))).set5 (.slice p' (ins.drop (ahead ns 2 k + 1)).length cap')).drew)
      generalize (World.setCell _ _ _).drew = w2 at *
      obtain ⟨g1, g2⟩ := HC2.out.row k (by rw [curL_len (by omega)]; omega)
      generalize (curL ns sts ins k)[k]'(by rw [curL_len (by omega)]; omega) = old at *
      have HFin := hide (HC2.out.put k wv)
      rw [HCS.out _ HV.out] at HFin
      have HM4 : Hid (SL w v4 (sts.drop (ahead ns 3 (k + 1)))) := by rw [ahead_no HK3.out]; exact HL4
      have HM5 : Hid (SL w (.slice p' (ins.drop (ahead ns 2 k + 1)).length cap') (ins.drop (ahead ns 2 (k + 1)))) := by rw [ahead_yes HK2.out]; exact (⟨p', cap', rfl, hI', h1', Nat.le_trans h2' hc2⟩ : SL _ _ _)
      clear HC2 HCa n0 n1 n2 n3 n4 n5 HC
      go_wp2
      go_roundw
      case rel => first | exact ⟨k + 1, _, _, by omega, by go_num, HFin, HM4, HM5⟩ | ((repeat apply Exists.intro); exact ⟨⟨k + 1, _, _, by omega, by go_num, HFin, HM4, HM5⟩, rfl⟩)
      case measure => simp [intOf]; omega
    · subst k3
      have HOP := hide (fun w => isOp_any 3 w)
      rw [show btw 3 4 23 = false from by decide] at HOP
      have HV : Hid (valAt ns sts ins (vals ns sts ins k) k = sts.getD (ahead ns 3 k) 0) := by rw [HVA.out]; simp [Hid]
      have HCS := hide (fun (x : Int) (h : valAt ns sts ins (vals ns sts ins k) k = x) => curL_set hlt h)
      have HK2 : Hid (isK ns 2 k = false) := HIK.out 2
      have HK3 : Hid (isK ns 3 k = true) := HIK.out 3
      have hin := (HS3.out k hlt HK3.out).1
      have hSL := HL4.out
      rw [drop_cons hin] at hSL
      obtain ⟨p, cap, rfl, hIp, hc1, hc2⟩ := hSL
      simp only [List.length_cons] at *
      have HSt := hide (fun (w2 : World) (hb : Below w.heap.size w w2) (hB : w2.cell? ⟨B4, 0, none⟩ = some (.slice p ((sts.drop (ahead ns 3 k + 1)).length + 1) cap)) (hf : w2.frozen? ⟨B4, 0, none⟩ = false) => stands3_any v x y z n B4 B5 (sts.getD (ahead ns 3 k) 0) (sts.drop (ahead ns 3 k + 1)) p cap hc1 hc2 w2 (hIp.later hb) hB hf)
      generalize sts.getD (ahead ns 3 k) 0 = wv at *
      have hba : Below wr.heap.size wr (wr.alloc (.cells #[.int .i64 3, .int .i64 v, .int .i64 x, .int .i64 y, .int .i64 z, .int .i64 n] 62)) := bal (Below.refl _ _) _
      have HCa := hide (HC.out.later hba)
      have n0 : (wr.alloc (.cells #[.int .i64 3, .int .i64 v, .int .i64 x, .int .i64 y, .int .i64 z, .int .i64 n] 62)).cell? ⟨wr.heap.size, 0, none⟩ = some (.int .i64 3) := by simp [go_sem]
      have n1 : (wr.alloc (.cells #[.int .i64 3, .int .i64 v, .int .i64 x, .int .i64 y, .int .i64 z, .int .i64 n] 62)).cell? ⟨wr.heap.size, 1, none⟩ = some (.int .i64 v) := by simp [go_sem]
      have n2 : (wr.alloc (.cells #[.int .i64 3, .int .i64 v, .int .i64 x, .int .i64 y, .int .i64 z, .int .i64 n] 62)).cell? ⟨wr.heap.size, 2, none⟩ = some (.int .i64 x) := by simp [go_sem]
      have n3 : (wr.alloc (.cells #[.int .i64 3, .int .i64 v, .int .i64 x, .int .i64 y, .int .i64 z, .int .i64 n] 62)).cell? ⟨wr.heap.size, 3, none⟩ = some (.int .i64 y) := by simp [go_sem]
      have n4 : (wr.alloc (.cells #[.int .i64 3, .int .i64 v, .int .i64 x, .int .i64 y, .int .i64 z, .int .i64 n] 62)).cell? ⟨wr.heap.size, 4, none⟩ = some (.int .i64 z) := by simp [go_sem]
      have n5 : (wr.alloc (.cells #[.int .i64 3, .int .i64 v, .int .i64 x, .int .i64 y, .int .i64 z, .int .i64 n] 62)).cell? ⟨wr.heap.size, 5, none⟩ = some (.int .i64 n) := by simp [go_sem]
      clear hba
      go_wp2_with (first | (go_at_call 49; refine (HOP.out _).mono ?_; rintro e w' ⟨rfl, rfl⟩))
      refine (HSt.out _ HCa.out.below HCa.out.b4 HCa.out.f4).mono ?_
      rintro e w2 ⟨rfl, p', cap', rfl, hI2, h1', h2'⟩
      have hI' : IntsAt w p' (sts.drop (ahead ns 3 k + 1)) := hI2 w hIp
      have HC2 := hide (((HCa.out.later (bal (Below.refl _ _) (.cells #[.int .i64 3, .int .i64 v, .int .i64 x, .int .i64 y, .int .i64 z, .int .i64 n] 62))).set4 (.slice p' (sts.drop (ahead ns 3 k + 1)).length cap')).drew)
      generalize (World.setCell _ _ _).drew = w2 at *
      obtain ⟨g1, g2⟩ := HC2.out.row k (by rw [curL_len (by omega)]; omega)
      generalize (curL ns sts ins k)[k]'(by rw [curL_len (by omega)]; omega) = old at *
      have HFin := hide (HC2.out.put k wv)
      rw [HCS.out _ HV.out] at HFin
      have HM4 : Hid (SL w (.slice p' (sts.drop (ahead ns 3 k + 1)).length cap') (sts.drop (ahead ns 3 (k + 1)))) := by rw [ahead_yes HK3.out]; exact (⟨p', cap', rfl, hI', h1', Nat.le_trans h2' hc2⟩ : SL _ _ _)
      have HM5 : Hid (SL w v5 (ins.drop (ahead ns 2 (k + 1)))) := by rw [ahead_no HK2.out]; exact HL5
      clear HC2 HCa n0 n1 n2 n3 n4 n5 HC
      go_wp2
      go_roundw
      case rel => first | exact ⟨k + 1, _, _, by omega, by go_num, HFin, HM4, HM5⟩ | ((repeat apply Exists.intro); exact ⟨⟨k + 1, _, _, by omega, by go_num, HFin, HM4, HM5⟩, rfl⟩)
      case measure => simp [intOf]; omega
    · have hop := (node_zero HZ.out).2.2.2.1 k4
      have HOps := hide (node_zero HZ.out).2.2.1
      obtain ⟨i1, i2, i3, _, _⟩ := opE_in hop
      have key : ∀ u : Int, 0 ≤ u ∧ u < k → isW ((vals ns sts ins k).getD u.toNat 0) (wdOf ns u) = true := by
        intro u hu
        rw [vals_at ns sts ins (show u.toNat < k by omega)]
        have := HVW.out u.toNat (by omega)
        rwa [show ((u.toNat : Nat) : Int) = u by omega] at this
      have HOA := hide (fun (w2 : World) (hb : Below w.heap.size w w2) (hR : IRow w2 g (curL ns sts ins k)) => operate_any ⟨some ⟨nb, noff, none⟩, c0, a1, l1, c1, a2, l2, c2, a3, l3, c3, a4, l4, c4⟩ ns hl ⟨kd, v, x, y, z, n⟩ k hlt HOps.out (curL ns sts ins k) (curL_len (by omega)) g w2 (HN.out.later hb) hR (opE_fit hop)
        (by rw [curL_opv i1]; exact op_isW (fun h => key _ (i1 h))) (by rw [curL_opv i2]; exact op_isW (fun h => key _ (i2 h))) (by rw [curL_opv i3]; exact op_isW (fun h => key _ (i3 h))))
      rw [curL_opv i1, curL_opv i2, curL_opv i3] at HOA
      have HV : Hid (valAt ns sts ins (vals ns sts ins k) k = madeE kd v (opv (vals ns sts ins k) (takes kd) 0 x) (opv (vals ns sts ins k) (takes kd) 1 y) (opv (vals ns sts ins k) (takes kd) 2 z) n (wds ns (takes kd) 0 x) (wds ns (takes kd) 1 y)) := by
        rw [HVA.out, if_neg (by omega), if_neg (by omega), if_neg (by omega)]; rfl
      have HCS := hide (fun (x : Int) (h : valAt ns sts ins (vals ns sts ins k) k = x) => curL_set hlt h)
      have HK2 : Hid (isK ns 2 k = false) := by rw [HIK.out]; simp [Hid]; omega
      have HK3 : Hid (isK ns 3 k = false) := by rw [HIK.out]; simp [Hid]; omega
      have HOP := hide (fun w => isOp_any kd w)
      rw [show btw kd 4 23 = true from btw_true.2 ⟨k4, hkd.2⟩] at HOP
      simp only at HOA
      generalize madeE kd v (opv (vals ns sts ins k) (takes kd) 0 x) (opv (vals ns sts ins k) (takes kd) 1 y) (opv (vals ns sts ins k) (takes kd) 2 z) n (wds ns (takes kd) 0 x) (wds ns (takes kd) 1 y) = made at *
      have hba : Below wr.heap.size wr (wr.alloc (.cells #[.int .i64 kd, .int .i64 v, .int .i64 x, .int .i64 y, .int .i64 z, .int .i64 n] 62)) := bal (Below.refl _ _) _
      have HCa := hide (HC.out.later hba)
      have n0 : (wr.alloc (.cells #[.int .i64 kd, .int .i64 v, .int .i64 x, .int .i64 y, .int .i64 z, .int .i64 n] 62)).cell? ⟨wr.heap.size, 0, none⟩ = some (.int .i64 kd) := by simp [go_sem]
      have n1 : (wr.alloc (.cells #[.int .i64 kd, .int .i64 v, .int .i64 x, .int .i64 y, .int .i64 z, .int .i64 n] 62)).cell? ⟨wr.heap.size, 1, none⟩ = some (.int .i64 v) := by simp [go_sem]
      have n2 : (wr.alloc (.cells #[.int .i64 kd, .int .i64 v, .int .i64 x, .int .i64 y, .int .i64 z, .int .i64 n] 62)).cell? ⟨wr.heap.size, 2, none⟩ = some (.int .i64 x) := by simp [go_sem]
      have n3 : (wr.alloc (.cells #[.int .i64 kd, .int .i64 v, .int .i64 x, .int .i64 y, .int .i64 z, .int .i64 n] 62)).cell? ⟨wr.heap.size, 3, none⟩ = some (.int .i64 y) := by simp [go_sem]
      have n4 : (wr.alloc (.cells #[.int .i64 kd, .int .i64 v, .int .i64 x, .int .i64 y, .int .i64 z, .int .i64 n] 62)).cell? ⟨wr.heap.size, 4, none⟩ = some (.int .i64 z) := by simp [go_sem]
      have n5 : (wr.alloc (.cells #[.int .i64 kd, .int .i64 v, .int .i64 x, .int .i64 y, .int .i64 z, .int .i64 n] 62)).cell? ⟨wr.heap.size, 5, none⟩ = some (.int .i64 n) := by simp [go_sem]
      have hbox := HCa.out.box
      simp only [Box] at hbox
      obtain ⟨z0, z1, z2, z3, z4⟩ := hbox
      clear hba hop i1 i2 i3 key
      go_wp2_with (first | (go_at_call 49; refine (HOP.out _).mono ?_; rintro e w' ⟨rfl, rfl⟩))
      refine (HOA.out _ HCa.out.below HCa.out.row).mono ?_
      rintro e w2 ⟨rfl, hb2⟩
      have HC2 := hide (HCa.out.later hb2)
      obtain ⟨g1, g2⟩ := HC2.out.row k (by rw [curL_len (by omega)]; omega)
      generalize (curL ns sts ins k)[k]'(by rw [curL_len (by omega)]; omega) = old at *
      have HFin := hide (HC2.out.put k made)
      rw [HCS.out _ HV.out] at HFin
      have HM4 : Hid (SL w v4 (sts.drop (ahead ns 3 (k + 1)))) := by rw [ahead_no HK3.out]; exact HL4
      have HM5 : Hid (SL w v5 (ins.drop (ahead ns 2 (k + 1)))) := by rw [ahead_no HK2.out]; exact HL5
      clear hb2 HC2 HCa n0 n1 n2 n3 n4 n5 HC z0 z1 z2 z3 z4
      go_wp2
      go_roundw
      case rel => first | exact ⟨k + 1, _, _, by omega, by go_num, HFin, HM4, HM5⟩ | ((repeat apply Exists.intro); exact ⟨⟨k + 1, _, _, by omega, by go_num, HFin, HM4, HM5⟩, rfl⟩)
      case measure => simp [intOf]; omega
  · obtain rfl : k = ns.length := by omega
    have HRw := hide HC.out.row
    have HE : Hid (curL ns sts ins ns.length = vals ns sts ins ns.length) := by unfold curL; rw [Nat.sub_self]; simp [Hid]
    rw [HE.out] at HRw
    go_wp2
    go_ret
    exact ⟨g, rfl, HRw.out, HC.out.below⟩

end Go.Proofs.YtfobcnhibhbbaaaGreatDoor.Ev
