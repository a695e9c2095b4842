/- The places of a node's numbers. -/
import Derived.Test.YtabnimgpednhjaaDoorJn
namespace Go.Proofs.YtabnimgpednhjaaDoor
open Go.RowKit Go.Deep
set_option maxRecDepth 100000

theorem info79 : (Tryd.prog.info? 69).map (fun i => (i.zero, i.size, i.bytes)) = some (some (.pointer none), 1, 8) := by kernel_rfl
theorem Kept.below {w w' : World} {R base : Nat} {v : Value} (h : Kept w w' R v) (hR : base ≤ R) (hb : base ≤ w.heap.size) (hv : ∀ k, v.ownBlock = some k → base ≤ k) : Below base w w' :=
  ⟨h.os, h.tape, h.output, h.size, fun k hk => h.block k (by omega) (by omega) (fun e => by have := hv k e; omega)⟩

set_option maxHeartbeats 4000000 in
theorem place_any (base V : Nat) (v : Value) (n : Nat) (hn : n ≤ 1000) (vs : List Value) (q : Option Addr) (w : World) (hbs : base ≤ w.heap.size) (hF : Fg 69 1 w base V 0 #[v] 107 v n vs) :
    Calls Tryd.prog 57 #[.pointer q, .pointer (some ⟨V, 0, none⟩)] w fun e w' => e = .returned (.tuple #[]) ∧ (∃ v', Fg 69 1 w' base V 0 #[v'] 107 v' (n + 1) (vs ++ [.pointer q])) ∧ Kept w w' V v := by
  obtain ⟨i0, hi, hz0, hz1, hz2⟩ := info_parts info79
  obtain ⟨pv, cv, rfl⟩ := hF.slice
  have HF := hide hF
  have m1 := hF.cell
  have f1 : w.frozen? ⟨V, 0, none⟩ = false := Lib.frozen_of_heap hF.c 0
  have hFa := hF.later (bal (Below.refl _ _) (.cells #[.pointer q] 69))
  have hne := ownBlock_neG hFa.row hFa.c (by decide)
  have HFA := hide hFa
  have HNE := hide hne
  have hR1 := World.block_lt_of_cell? _ _ m1
  simp only at hR1
  have hR2 := World.new_ne w ⟨V, 0, none⟩ m1
  simp only at hR2
  clear hF hFa hne
  go_enter Tryd.func57, Tryd.ntmps57
  go_wp2_with (at_builtin; refine wpList_append_own _ rfl _ _ 107 rfl base 69 i0 (.pointer none) 1 8 Tryd.underlying107 hi hz0 hz1 hz2 rfl (by decide) _ _ _ rfl (HF.out.row.alloc _) ⟨w.heap.size, 0, none⟩ 1 1 [.pointer q] rfl rfl ?c1 ?c2 ?c3 ?c4 ?c5 ?_)
  case c1 =>
    intro j u hj
    match j, hj with
    | 0, hj => simp at hj; subst hj; simp [Addr.add]
  case c2 => intro u hu; simp at hu; subst hu; rfl
  case c3 => unfold maxLen; omega
  case c4 => omega
  case c5 => simp; omega
  intro v' w2 hown hg _
  obtain ⟨p', c', rfl⟩ : ∃ p c, v' = .slice p (n + 1) c := by
    rcases hown.2 with ⟨rfl, h⟩ | ⟨g, cap, cur, rfl, _⟩
    · omega
    · exact ⟨_, _, rfl⟩
  have t2 : w2.heap[V]? = some (.cells #[.slice pv n cv] 107 (0, 0)) := (hg.block _ (Array.getElem?_eq_some_iff.1 HFA.out.c).1 (fun e => HNE.out e.symm)).trans HFA.out.c
  have g2 : w2.cell? ⟨V, 0, none⟩ = some (.slice pv n cv) := by rw [Lib.cell_of_heap t2]; exact HFA.out.at'
  have f2 : w2.frozen? ⟨V, 0, none⟩ = false := Lib.frozen_of_heap t2 0
  have hpt := HF.out.put (v' := .slice p' (n + 1) c') hbs (Below.refl _ w) (by decide) (bal (Below.refl _ w) (.cells #[.pointer q] 69)) hg hown
  have HPT := hide hpt
  clear hpt hown hg t2
  go_wp2_with fail
  go_end0
  exact ⟨rfl, ⟨_, HPT.out.1, rfl, HPT.out.2.1, HF.out.hR⟩, HPT.out.2.2⟩

/-- Pointers to a node's numbers. -/
def ptrL (nb : Nat) (k : Int) (j : Nat) : List Value := (List.range j).map fun i => .pointer (some ⟨nb, offN k i, none⟩)
theorem ptrL_succ (nb : Nat) (k : Int) (j : Nat) : ptrL nb k (j + 1) = ptrL nb k j ++ [.pointer (some ⟨nb, offN k j, none⟩)] := by
  unfold ptrL
  rw [List.range_succ, List.map_append]
  rfl
/-- While the places are gathered. -/
def PlJ (w0 : World) (nb V : Nat) (k : Int) (arr : Array Value) (j : Nat) (wr : World) : Prop :=
  (∃ v, Fg 69 1 wr w0.heap.size V 0 #[v] 107 v j (ptrL nb k j)) ∧ wr.heap[nb]? = some (.cells arr 46 (0, 0)) ∧ Below w0.heap.size w0 wr
theorem plJ_later {w0 : World} {nb V : Nat} {k : Int} {arr : Array Value} (j : Nat) (w1 w2 : World) (h : PlJ w0 nb V k arr j w1) (hb : Below w1.heap.size w1 w2) : PlJ w0 nb V k arr j w2 := by
  obtain ⟨⟨v, h1⟩, h2, h3⟩ := h
  exact ⟨⟨v, h1.later hb⟩, (hb.block _ (Array.getElem?_eq_some_iff.1 h2).1).trans h2, belowAl h3 hb⟩
theorem enter74 (args : Array Value) (w : World) : (callFunc 57 args).run Tryd.prog w = .ok (.enter 57 args) w := by kernel_rfl
theorem plJ_step {w0 : World} {nb V : Nat} {k : Int} {arr : Array Value} (j : Nat) (w1 : World) (hj : j < manyN k) (h : PlJ w0 nb V k arr j w1) :
    Calls Tryd.prog 57 #[.pointer (some ⟨nb, offN k j, none⟩), .pointer (some ⟨V, 0, none⟩)] w1 fun e w' => e = .returned (.tuple #[]) ∧ PlJ w0 nb V k arr (j + 1) w' ∧ Below w0.heap.size w1 w' := by
  obtain ⟨⟨v, h1⟩, h2, h3⟩ := h
  have hm := manyN_bd k
  refine (place_any w0.heap.size V v j (by omega) (ptrL nb k j) (some ⟨nb, offN k j, none⟩) w1 h3.size h1).mono ?_
  rintro e w' ⟨rfl, ⟨v', k1⟩, k2⟩
  have hB := k2.below h1.hR h3.size (fun i hi => (h1.row.lt i hi).1)
  have hlt := (Array.getElem?_eq_some_iff.1 h2).1
  rw [← ptrL_succ] at k1
  refine ⟨rfl, ⟨⟨v', k1⟩, (k2.block nb hlt (fun e => ?_) (ownBlock_neG h1.row h2 (by decide))).trans h2, h3.trans hB⟩, hB⟩
  subst e
  have := h1.c
  rw [h2] at this
  cases this
theorem places_any {w0 : World} (nb V : Nat) (k : Int) (arr : Array Value) (w : World) (hk : arr[0]? = some (.int .i64 k)) (h : PlJ w0 nb V k arr 0 w) :
    Calls Tryd.prog 23 #[.pointer (some ⟨nb, 0, none⟩), .func (.func 57) #[] #[.pointer (some ⟨V, 0, none⟩)]] w fun e w' => e = .returned (.tuple #[]) ∧ PlJ w0 nb V k arr (manyN k) w' ∧ Below w0.heap.size w w' :=
  each_any 57 (.pointer (some ⟨V, 0, none⟩)) nb w0.heap.size k (PlJ w0 nb V k arr) w h plJ_later (fun j w1 h1 => ⟨by rw [Lib.cell_of_heap h1.2.1]; exact hk, h1.2.2.size⟩) enter74 (fun j w1 hj h1 => plJ_step j w1 hj h1)
end Go.Proofs.YtabnimgpednhjaaDoor

namespace Go.Proofs.YtabnimgpednhjaaDoor
open Go.RowKit Go.Deep
set_option maxRecDepth 100000

/-- Where a node's numbers lie. -/
def offL (k : Int) : List Nat := (List.range (manyN k)).map (offN k)
theorem offL_len (k : Int) : (offL k).length = manyN k := by simp [offL]
theorem offL_in (k : Int) : ∀ o ∈ offL k, o < 6 := fun o h => by
  obtain ⟨i, _, rfl⟩ := List.mem_map.1 h
  have := offN_bd k i
  omega
def node0 (k : Nat) : Array Value := #[.int .i64 k, .int .i64 0, .int .i64 0, .int .i64 0, .int .i64 0, .int .i64 0]
def nodeA (k : Nat) (ns : List Int) : Array Value := setN (node0 k) (offL k) ns (offL k).length
/-- What a node's line tells: a kind, and its numbers. -/
def nodeOk (a b : ByteArray) (rest : List ByteArray) (len : Nat) : Option (Nat × List Int) :=
  if tellsN a = some (len : Int) ∧ kindN b ≠ 0 ∧ readB rest (manyN (kindN b)) = true then (tellAll rest).map fun ns => (kindN b, ns) else none
theorem ptrs_of {w : World} {base V nb : Nat} {k : Int} {arr : Array Value} {v : Value} (hF : Fg 69 1 w base V 0 #[v] 107 v (manyN k) (ptrL nb k (manyN k))) (hn : w.heap[nb]? = some (.cells arr 46 (0, 0))) : ∃ p c, v = .slice p (offL k).length c ∧ PtrsAt w p nb (offL k) := by
  have hm := manyN_bd k
  rcases hF.row.2 with ⟨rfl, h⟩ | ⟨g, cap, cur, rfl, _, hg, h1, h2, h3, h4⟩
  · omega
  · refine ⟨some ⟨g, 0, none⟩, cap, by rw [offL_len], fun _ => ⟨g, 0, rfl, fun e => ?_, fun i hi => ?_⟩⟩
    · subst e
      rw [hg] at hn
      cases hn
    · rw [Lib.cell_of_heap hg]
      rw [offL_len] at hi
      have e : (cur.toList.take (manyN k * 1))[i]? = (ptrL nb k (manyN k))[i]? := by rw [h4]
      rw [List.getElem?_take_of_lt (by omega)] at e
      simp only [Nat.zero_add]
      rw [← Array.getElem?_toList, e]
      simp [ptrL, offL, hi]
theorem strs_tail {w : World} {b off : Nat} {x y : ByteArray} {rest : List ByteArray} (h : StrsAt w (some ⟨b, off, none⟩) (x :: y :: rest)) : StrsAt w (some ⟨b, off + 2, none⟩) rest := fun h0 => by
  obtain ⟨b', off', c, fz, e, h1, h2⟩ := h (by simp)
  cases e
  refine ⟨b, off + 2, c, fz, rfl, h1, fun i hi => ?_⟩
  have := h2 (i + 2) (by simp; omega)
  simp only [List.getElem_cons_succ] at this
  rw [show off + 2 + i = off + (i + 2) by omega]
  exact this

set_option maxHeartbeats 4000000 in
theorem node_short (R : Nat) (p : Option Addr) (ws : List ByteArray) (hl : ws.length < 2) (w : World) :
    Calls Tryd.prog 32 #[.pointer (some ⟨R, 0, none⟩), .slice p ws.length ws.length] w fun e w' => e = .returned (.bool false) ∧ w' = w := by
  have hli : (ws.length : Int) < 2 := by omega
  go_enter Tryd.func32, Tryd.ntmps32
  go_wp2_with fail
  go_ret
  exact ⟨rfl, rfl⟩
end Go.Proofs.YtabnimgpednhjaaDoor

namespace Go.Proofs.YtabnimgpednhjaaDoor
open Go.RowKit Go.Deep
set_option maxRecDepth 100000

set_option maxHeartbeats 4000000 in
theorem node_no1 (R : Nat) (p : Option Addr) (a b : ByteArray) (rest : List ByteArray) (pv : Option Addr) (cv len : Nat) (w : World) (hKW : KW w) (hS : StrsAt w p (a :: b :: rest)) (hm : w.cell? ⟨R, 0, none⟩ = some (.slice pv len cv)) (hno : ¬ (tellsN a = some (len : Int) ∧ kindN b ≠ 0)) :
    Calls Tryd.prog 32 #[.pointer (some ⟨R, 0, none⟩), .slice p (rest.length + 2) (rest.length + 2)] w fun e w' => e = .returned (.bool false) ∧ Below w.heap.size w w' := by
  obtain ⟨g, off, rfl, hc⟩ := hS.cell (by simp)
  have c0 := hc 0 (by simp)
  have c1 := hc 1 (by simp)
  simp only [List.getElem_cons_zero, List.getElem_cons_succ, Nat.add_zero] at c0 c1
  have hli : ¬ ((rest.length : Int) + 2) < 2 := by omega
  have hl1 : (1 : Int) < (rest.length : Int) + 2 := by omega
  have hl0 : (0 : Int) < (rest.length : Int) + 2 := by omega
  have HN := hide (number_any a w)
  have HK := hide (kindOf_any b w hKW)
  have hbA : Below w.heap.size w (w.alloc (.cells (node0 (kindN b)) 46)) := bal (Below.refl _ _) _
  have m1 := past1 hm (.cells (node0 (kindN b)) 46)
  have k0 : (w.alloc (.cells (node0 (kindN b)) 46)).cell? ⟨w.heap.size, 0, none⟩ = some (.int .i64 (kindN b)) := by
    rw [Lib.cell_of_heap (heap_alloc_new w _)]; rfl
  unfold node0 at hbA m1 k0
  have HB := hide hbA
  clear hS hc hbA hKW
  generalize hkn : kindN b = kn at *
  cases hta : tellsN a with
  | none =>
    rw [hta] at HN
    rw [show numR none = .tuple #[.int .i64 0, .bool false] from rfl] at HN
    clear hno hta
    go_enter Tryd.func32, Tryd.ntmps32
    go_wp2_with fail
    refine HN.out.mono ?_
    rintro e w1 ⟨rfl, rfl⟩
    go_wp2_with fail
    refine HK.out.mono ?_
    rintro e w2 ⟨rfl, rfl⟩
    go_wp2_with fail
    go_ret
    exact ⟨rfl, HB.out⟩
  | some n =>
    rw [hta] at HN
    rw [show numR (some n) = .tuple #[.int .i64 n, .bool true] from rfl] at HN
    by_cases hn : n = (len : Int)
    · have hk0 : kn = 0 := by
        by_cases h : kn = 0
        · exact h
        · exact absurd ⟨by rw [hta, hn], h⟩ hno
      clear hno hta
      subst hk0 hn
      rw [show (((0 : Nat) : Int)) = 0 from rfl] at HK k0 m1 HB
      go_enter Tryd.func32, Tryd.ntmps32
      go_wp2_with fail
      refine HN.out.mono ?_
      rintro e w1 ⟨rfl, rfl⟩
      go_wp2_with fail
      refine HK.out.mono ?_
      rintro e w2 ⟨rfl, rfl⟩
      go_wp2_with fail
      go_ret
      exact ⟨rfl, HB.out⟩
    · have hd1 : (n == (len : Int)) = false := by simpa using hn
      have hd2 : (n != (len : Int)) = true := by simpa using hn
      clear hno hta
      go_enter Tryd.func32, Tryd.ntmps32
      go_wp2_with fail
      refine HN.out.mono ?_
      rintro e w1 ⟨rfl, rfl⟩
      go_wp2_with fail
      refine HK.out.mono ?_
      rintro e w2 ⟨rfl, rfl⟩
      go_wp2_with fail
      go_ret
      exact ⟨rfl, HB.out⟩
end Go.Proofs.YtabnimgpednhjaaDoor
