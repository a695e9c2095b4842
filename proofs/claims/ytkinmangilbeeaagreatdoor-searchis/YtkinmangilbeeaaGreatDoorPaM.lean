/- Clauses of gates: lists of lists in memory; the maker adds a clause. -/
import Derived.Test.YtkinmangilbeeaaGreatDoorUbM
import Derived.Deep.RegionLaw
import Derived.Deep.AppendLies
import Derived.Test.YtkinmangilbeeaaGreatDoorUg
import Derived.Maps.OwnSet
namespace Go.Proofs.YtkinmangilbeeaaGreatDoor
open Go.RowKit Go.Maps Go.WideMaps
set_option maxRecDepth 100000

/-- A list within a row of lists: where it lies, its numbers, its capacity. -/
structure Row where
  at' : Option Addr
  ns : List Int
  cap : Nat
def Row.v (r : Row) : Value := .slice r.at' r.ns.length r.cap
def RowsAt (w : World) (p : Option Addr) (l : List Row) : Prop := 0 < l.length → ∃ b off, p = some ⟨b, off, none⟩ ∧ ∀ i (hi : i < l.length), w.cell? ⟨b, off + i, none⟩ = some l[i].v
theorem RowsAt.later {w w' : World} {p : Option Addr} {l : List Row} (h : RowsAt w p l) (hb : Below w.heap.size w w') : RowsAt w' p l := fun h0 => by
  obtain ⟨b, off, h1, h2⟩ := h h0
  exact ⟨b, off, h1, fun i hi => cell_later hb (h2 i hi)⟩
/-- Each list of the row lies where it says. -/
def InAt (w : World) (l : List Row) : Prop := ∀ r ∈ l, IntsAt w r.at' r.ns
theorem InAt.later {w w' : World} {l : List Row} (h : InAt w l) (hb : Below w.heap.size w w') : InAt w' l := fun r hr => (h r hr).later hb

theorem IntsAt.grownBy {w w1 : World} {row : Option Nat} {p : Option Addr} {l : List Int} (h : IntsAt w p l) (hg : w.grownBy w1 row) (hne : ∀ a, p = some a → some a.block ≠ row) : IntsAt w1 p l := by
  intro h0
  obtain ⟨b, off, e, hc⟩ := h h0
  exact ⟨b, off, e, fun i hi => hg.cell (hc i hi) (hne ⟨b, off, none⟩ e)⟩
theorem IntsAt.set {w : World} {p : Option Addr} {l : List Int} (h : IntsAt w p l) (q : Addr) (u : Value) (hne : ∀ a, p = some a → a.block ≠ q.block) : IntsAt (w.setCell q u) p l := by
  intro h0
  obtain ⟨b, off, e, hc⟩ := h h0
  exact ⟨b, off, e, fun i hi => cell_set_far (hc i hi) (hne ⟨b, off, none⟩ e)⟩

set_option maxHeartbeats 1000000 in
theorem cloneI_any (p : Option Addr) (cap : Nat) (l : List Int) (hl : l.length ≤ 1000001) (w : World) (hP : IntsAt w p l) :
    Calls Tryz.prog 38 #[.slice p l.length cap] w fun e w' => ∃ v, e = .returned v ∧ w'.ownsRow w.heap.size 3 1 v l.length (l.map (Value.int .i64)) ∧ Below w.heap.size w w' := by
  obtain ⟨i0, hi, hz0, hz1, hz2⟩ := info_parts info3
  have q36 : ∀ (w : World) (a : Option Addr) (n c n' c' : Nat), (binOp .eql 38 (.slice a n c) (.slice none n' c')).run Tryz.prog w = .ok (.bool a.isNone) w := fun w a n c n' c' => Lib.run_eql_slice_nil w _ _ a n c n' c' Tryz.underlying38
  cases p with
  | none =>
    have h0 : l = [] := by
      cases l with
      | nil => rfl
      | cons a t => obtain ⟨b, off, h, _⟩ := hP (by simp); cases h
    subst h0
    go_enter Tryz.func38, Tryz.ntmps38
    go_wp2
    go_ret
    exact ⟨_, rfl, World.ownsRow_nil _ _ _ _, Below.refl _ _⟩
  | some ad =>
    have HC := hide (ints_cells hP)
    clear hP
    go_enter Tryz.func38, Tryz.ntmps38
    go_wp2_with (at_builtin; refine wpList_append_own _ rfl _ _ 38 rfl w.heap.size 3 i0 (.int .i64 0) 1 8 Tryz.underlying38 hi hz0 hz1 hz2 rfl (by decide) _ _ _ rfl (World.ownsRow_made w #[] 0 (Nat.le_refl _) (Nat.zero_le _) rfl) ad l.length cap (l.map (Value.int .i64)) rfl ?qc1 ?qc2 ?qc3 ?qc4 ?qc5 ?qc6 ?_)
    case qc1 => simp
    case qc2 => intro j u hj; exact Lib.cell?_alloc_some _ (HC.out j u hj)
    case qc3 => intro u hu; obtain ⟨x, _, rfl⟩ := List.mem_map.1 hu; rfl
    case qc4 => unfold maxLen; omega
    case qc5 => omega
    case qc6 => simp
    intro v' w1 hown hgrow _
    go_wp2
    go_ret
    exact ⟨v', rfl, by simpa using hown, ((Below.refl _ w).alloc (Nat.le_refl _) _).grown hgrow (by simp) (by intro k hk; simp [Value.ownBlock] at hk; omega)⟩

theorem infoR : (Tryz.prog.info? 38).map (fun i => (i.zero, i.size, i.bytes)) = some (some (.slice none 0 0), 1, 24) := by kernel_rfl

/-- The memory of a maker of clauses. -/
structure Cm (w : World) (base M : Nat) (v : Value) (vars : Int) (rs : List Row) : Prop where
  c0 : w.cell? ⟨M, 0, none⟩ = some (.int .i64 vars)
  c1 : w.cell? ⟨M, 1, none⟩ = some v
  f0 : w.frozen? ⟨M, 0, none⟩ = false
  f1 : w.frozen? ⟨M, 1, none⟩ = false
  row : w.ownsRow base 38 1 v rs.length (rs.map Row.v)
  inn : InAt w rs
  hM : base ≤ M
  nv : v.ownBlock ≠ some M
  far : ∀ r ∈ rs, ∀ a, r.at' = some a → a.block ≠ M ∧ v.ownBlock ≠ some a.block ∧ a.block < w.heap.size ∧ base ≤ a.block

theorem Cm.below {w w1 : World} {base M : Nat} {v : Value} {vars : Int} {rs : List Row} (h : Cm w base M v vars rs) (hb : Below w.heap.size w w1) : Cm w1 base M v vars rs :=
  ⟨cell_later hb h.c0, cell_later hb h.c1, by rw [hb.frozen (World.block_lt_of_cell? _ _ h.c0)]; exact h.f0, by rw [hb.frozen (World.block_lt_of_cell? _ _ h.c1)]; exact h.f1, owns_below h.row hb, h.inn.later hb, h.hM, h.nv, fun r hr a ha => ⟨(h.far r hr a ha).1, (h.far r hr a ha).2.1, Nat.lt_of_lt_of_le (h.far r hr a ha).2.2.1 hb.size, (h.far r hr a ha).2.2.2⟩⟩

theorem owns_rows {w : World} {base : Nat} {v : Value} {rs : List Row} (h : w.ownsRow base 38 1 v rs.length (rs.map Row.v)) : ∃ p cap, v = .slice p rs.length cap ∧ RowsAt w p rs := by
  have h' := h
  obtain ⟨h1, h2⟩ := h
  rcases h2 with ⟨rfl, h0⟩ | ⟨g, cap, cur, rfl, hg, hh, hn, hm, hs, ht⟩
  · exact ⟨none, 0, by rw [h0], fun h => by omega⟩
  · refine ⟨_, cap, rfl, fun _ => ⟨g, 0, rfl, fun i hi => ?_⟩⟩
    rw [Nat.zero_add, h'.cellAt i (by omega), List.getElem?_map, List.getElem?_eq_getElem hi]
    rfl

/-- What an append of one more list leaves. -/
theorem add_memC {w1 w2 : World} {base M g cap : Nat} {v : Value} {vars : Int} {rs : List Row} {r : Row} {o : Obj} (hbs : base ≤ w1.heap.size)
    (hmk : Cm w1 base M v vars rs) (hr : IntsAt w1 r.at' r.ns) (hrf : ∀ a, r.at' = some a → a.block ≠ M ∧ v.ownBlock ≠ some a.block ∧ a.block < w1.heap.size ∧ base ≤ a.block)
    (hg : (w1.alloc o).grownBy w2 v.ownBlock)
    (hrow : w2.ownsRow base 38 1 (.slice (some ⟨g, 0, none⟩) (rs.length + 1) cap) (rs.length + 1) (rs.map Row.v ++ [r.v])) (hat : v.ownBlock = some g ∨ g = w1.heap.size + 1) :
    Cm (w2.setCell ⟨M, 1, none⟩ (.slice (some ⟨g, 0, none⟩) (rs.length + 1) cap)) base M (.slice (some ⟨g, 0, none⟩) (rs.length + 1) cap) vars (rs ++ [r]) ∧
    (∀ w0, Below base w0 w1 → Below base w0 (w2.setCell ⟨M, 1, none⟩ (.slice (some ⟨g, 0, none⟩) (rs.length + 1) cap))) ∧
    (∀ (q : Addr) x, w1.cell? q = some x → q.block ≠ M → v.ownBlock ≠ some q.block → (w2.setCell ⟨M, 1, none⟩ (.slice (some ⟨g, 0, none⟩) (rs.length + 1) cap)).cell? q = some x) := by
  have hM := World.block_lt_of_cell? _ _ hmk.c1
  simp only at hM
  have hgM : g ≠ M := by
    rcases hat with h | h
    · intro e; exact hmk.nv (by rw [h, e])
    · omega
  have k0 := hg.cell (past1 hmk.c0 o) (fun e => hmk.nv e.symm)
  have k1 := hg.cell (past1 hmk.c1 o) (fun e => hmk.nv e.symm)
  have hb : Below w1.heap.size w1 (w1.alloc o) := bal (Below.refl _ _) o
  have kf : ∀ j x, w1.cell? ⟨M, j, none⟩ = some x → w1.frozen? ⟨M, j, none⟩ = false → w2.frozen? ⟨M, j, none⟩ = false := fun j x h1 h2 => by
    rw [grown_frozen hg (past1 h1 o) (fun e => hmk.nv e.symm), hb.frozen hM]
    exact h2
  have hIn : ∀ q : Row, IntsAt w1 q.at' q.ns → (∀ a, q.at' = some a → a.block ≠ M ∧ v.ownBlock ≠ some a.block) → IntsAt (w2.setCell ⟨M, 1, none⟩ (.slice (some ⟨g, 0, none⟩) (rs.length + 1) cap)) q.at' q.ns := fun q h1 h2 =>
    ((h1.later hb).grownBy hg (fun a ha e => (h2 a ha).2 e.symm)).set _ _ (fun a ha => (h2 a ha).1)
  have hsz2 : w1.heap.size ≤ w2.heap.size := by have := hg.size; simp at this; omega
  have hFar : ∀ q : Row, (∀ a, q.at' = some a → a.block ≠ M ∧ v.ownBlock ≠ some a.block ∧ a.block < w1.heap.size ∧ base ≤ a.block) → ∀ a, q.at' = some a → a.block ≠ M ∧ Value.ownBlock (.slice (some ⟨g, 0, none⟩) (rs.length + 1) cap) ≠ some a.block ∧ a.block < w2.heap.size ∧ base ≤ a.block := fun q h a ha => by
    obtain ⟨h1, h2, h3, h5⟩ := h a ha
    refine ⟨h1, ?_, by omega, h5⟩
    intro e
    have e' : g = a.block := by simpa [Value.ownBlock] using e
    rcases hat with h4 | h4
    · exact h2 (by rw [h4, e'])
    · omega
  refine ⟨⟨?_, ?_, ?_, ?_, ?_, ?_, hmk.hM, ?_, ?_⟩, ?_, ?_⟩
  · rw [World.cell?_setCell_other w2 _ _ _ (by simp)]; exact k0
  · exact World.cell?_setCell_same w2 _ _ k1
  · rw [World.frozen?_setCell]; exact kf _ _ hmk.c0 hmk.f0
  · rw [World.frozen?_setCell]; exact kf _ _ hmk.c1 hmk.f1
  · rw [List.length_append, List.map_append]
    exact owns_set hrow (by simpa [Value.ownBlock] using hgM)
  · intro q hq
    rcases List.mem_append.1 hq with h | h
    · exact hIn q (hmk.inn q h) (fun a ha => ⟨(hmk.far q h a ha).1, (hmk.far q h a ha).2.1⟩)
    · obtain rfl : q = r := by simpa using h
      exact hIn q hr (fun a ha => ⟨(hrf a ha).1, (hrf a ha).2.1⟩)
  · simpa [Value.ownBlock] using hgM
  · intro q hq
    have hs : ∀ u, (w2.setCell ⟨M, 1, none⟩ u).heap.size = w2.heap.size := fun u => by simp
    rcases List.mem_append.1 hq with h | h
    · intro a ha; rw [hs]; exact hFar q (hmk.far q h) a ha
    · obtain rfl : q = r := by simpa using h
      intro a ha; rw [hs]; exact hFar q hrf a ha
  · intro w0 hb
    refine Below.setCell ((hb.alloc hbs o).grown hg (by simp; omega) (fun k hk => (hmk.row.lt k hk).1)) hmk.hM _
  · intro q x hq h1 h2
    exact cell_set_far (hg.cell (past1 hq o) (fun e => h2 e.symm)) h1

theorem one_news (r : Row) (w : World) : ∀ j u, ([r.v] : List Value)[j]? = some u → (w.alloc (.cells #[r.v] 38)).cell? ((⟨w.heap.size, 0, none⟩ : Addr).add j) = some u := fun j u hj => by
  match j, hj with
  | 0, hj => simp at hj; subst hj; simp [go_sem, Addr.add]
theorem one_cell (r : Row) : ∀ u ∈ ([r.v] : List Value), u.oneCell' = true := fun u hu => by
  simp at hu; subst hu; rfl

end Go.Proofs.YtkinmangilbeeaaGreatDoor

namespace Go.Proofs.YtkinmangilbeeaaGreatDoor.Pf
open Go.RowKit Go.Maps Go.WideMaps
set_option maxRecDepth 100000

theorem law3 : Keyed Tryz.prog 3 := int_keyed Tryz.underlying3
theorem zero3 (w : World) : (zeroValue 3).run Tryz.prog w = .ok (.int .i64 0) w := by kernel_rfl
theorem lit_inj {a b : Int} (h : (DataW.lit (.int .i64 a) : DataW Unit) = .lit (.int .i64 b)) : a = b := by simpa using h

/-- What the map of what is so holds. -/
structure SoIs (st : List Int) (D : DataW Unit) : Prop where
  has : ∀ x : Int, Maps.has D (.int .i64 x) = decide (x ∈ st)
  at' : ∀ (i : Nat) (x : Int), st[i]? = some x → D.atKey (.int .i64 x) (.lit (.int .i64 0)) = .lit (.int .i64 i)
theorem soIs_zero : SoIs [] (.map []) := ⟨fun _ => by simp; rfl, fun i x h => by simp at h⟩
theorem SoIs.put {st : List Int} {D : DataW Unit} (h : SoIs st D) (hm : IsMap D) {x : Int} (hx : x ∉ st) : SoIs (st ++ [x]) (D.put (.int .i64 x) (.lit (.int .i64 st.length))) := by
  refine ⟨fun y => ?_, fun i y hy => ?_⟩
  · by_cases e : y = x
    · subst e
      rw [has_put_same hm (k := .int .i64 y) trivial]
      simp
    · rw [has_put_other (by simpa using e), h.has y]
      simp [e]
  · by_cases hi : i < st.length
    · rw [List.getElem?_append_left hi] at hy
      have hm' : y ∈ st := List.mem_of_getElem? hy
      have e : y ≠ x := fun e => hx (e ▸ hm')
      rw [atKey_put_other (by simpa using e)]
      exact h.at' i y hy
    · have hil : i < (st ++ [x]).length := (List.getElem?_eq_some_iff.1 hy).1
      rw [List.length_append] at hil
      obtain rfl : i = st.length := by simp at hil; omega
      have : y = x := by simpa using hy.symm
      subst this
      rw [atKey_put_same hm (k := .int .i64 y) trivial]
theorem SoIs.del {st : List Int} {D : DataW Unit} {x : Int} (h : SoIs (st ++ [x]) D) (hx : x ∉ st) : SoIs st (D.del (.int .i64 x)) := by
  refine ⟨fun y => ?_, fun i y hy => ?_⟩
  · by_cases e : y = x
    · subst e
      rw [has_del_same]
      simp [hx]
    · rw [has_del_other (by simpa using e), h.has y]
      simp [e]
  · have hm' : y ∈ st := List.mem_of_getElem? hy
    have e : y ≠ x := fun e => hx (e ▸ hm')
    rw [atKey_del_other (by simpa using e)]
    refine h.at' i y ?_
    rw [List.getElem?_append_left (List.getElem?_eq_some_iff.1 hy).1]
    exact hy
def Sm (w : World) (S n : Nat) (st : List Int) : Prop := ∃ D : DataW Unit, w.ownsMap Tryz.prog 3 (plainElem Tryz.prog 3) S n D ∧ SoIs st D
theorem map_same {H : Type} {P : Program} {k : TypeId} {R : Value → Option (DataW H × List MemPlace)} {w w1 : World} {b n : Nat} {D : DataW H} (h : w.ownsMap P k R b n D) (e : w1.heap[b]? = w.heap[b]?) : w1.ownsMap P k R b n D := by
  obtain ⟨es, cl, h1, h2⟩ := h
  exact ⟨es, cl, e.trans h1, h2⟩
theorem Sm.same {w w1 : World} {S n : Nat} {st : List Int} (h : Sm w S n st) (e : w1.heap[S]? = w.heap[S]?) : Sm w1 S n st := by
  obtain ⟨D, h1, h2⟩ := h
  exact ⟨D, map_same h1 e, h2⟩
theorem row_same {w w1 : World} {base : Nat} {e : TypeId} {sz : Nat} {v : Value} {n : Nat} {xs : List Value} (h : w.ownsRow base e sz v n xs) (hb : ∀ g, v.ownBlock = some g → w1.heap[g]? = w.heap[g]?) : w1.ownsRow base e sz v n xs := by
  refine ⟨h.1, ?_⟩
  rcases h.2 with hn | ⟨g, cap, cur, rfl, hbg, hg, rest⟩
  · exact .inl hn
  · exact .inr ⟨g, cap, cur, rfl, hbg, (hb g rfl).trans hg, rest⟩
def Small (x : Int) : Prop := -1000000 ≤ x ∧ x ≤ 1000000
theorem key3 {x : Int} (h : Small x) : keyOf Tryz.prog 3 (.int .i64 x) = some (.int .i64 x) := keyOf_int_mk Tryz.underlying3 (WalkArith.wf_i64 (by have := h.1; have := h.2; omega))
theorem look103 {w : World} {S n : Nat} {st : List Int} (h : Sm w S n st) {x : Int} (hx : Small x) :
    ∃ c, (Instr.lookup 62 (.map (some S)) (.int .i64 x) true).run Tryz.prog w = .ok (.tuple #[.int .i64 c, .bool (decide (x ∈ st))]) w ∧ ∀ i : Nat, st[i]? = some x → c = i := by
  obtain ⟨D, h1, h2⟩ := h
  obtain ⟨v, ps, h3, h4⟩ := World.ownsMap.look_ok h1 law3 Tryz.underlying62 (zero3 _) (plainElem_int Tryz.underlying3 (a := 0) (by decide)) (key3 hx)
  obtain ⟨c, rfl, h5, _⟩ := plainElem_int_inv Tryz.underlying3 h4
  rw [h2.has x] at h3
  refine ⟨c, h3, fun i hi => ?_⟩
  have h6 := h2.at' i x hi
  have h7 := congrArg Prod.fst h5
  simp only at h7
  rw [h6] at h7
  exact (lit_inj h7).symm

set_option maxHeartbeats 1000000 in
theorem isSo_any (R S n : Nat) (st : List Int) (x : Int) (hx : Small x) (w : World) (h5 : w.cell? ⟨R, 5, none⟩ = some (.map (some S))) (hS : Sm w S n st) :
    Calls Tryz.prog 35 #[.pointer (some ⟨R, 0, none⟩), .int .i64 x] w fun e w' => e = .returned (.bool (decide (x ∈ st))) ∧ w' = w := by
  obtain ⟨c, hl, _⟩ := look103 hS hx
  clear hS
  generalize decide (x ∈ st) = t at *
  go_enter Tryz.func35, Tryz.ntmps35
  go_wp2_with fail
  go_ret
  exact ⟨rfl, rfl⟩
theorem Small.neg {x : Int} (h : Small x) : Small (-x) := ⟨by have := h.2; omega, by have := h.1; omega⟩
set_option maxHeartbeats 1000000 in
theorem isNot_any (R S n : Nat) (st : List Int) (x : Int) (hx : Small x) (w : World) (h5 : w.cell? ⟨R, 5, none⟩ = some (.map (some S))) (hS : Sm w S n st) :
    Calls Tryz.prog 36 #[.pointer (some ⟨R, 0, none⟩), .int .i64 x] w fun e w' => e = .returned (.bool (decide (-x ∈ st))) ∧ w' = w := by
  have HI := hide (isSo_any R S n st (-x) hx.neg w h5 hS)
  have h1 := hx.1
  have h2 := hx.2
  clear hS
  generalize decide (-x ∈ st) = t at *
  go_enter Tryz.func36, Tryz.ntmps36
  go_wp2_with (go_at_call 35; refine HI.out.mono ?_; rintro e w' ⟨rfl, rfl⟩)
  go_ret
  exact ⟨rfl, rfl⟩

/-- Steps' cells, and watches', one behind the other. -/
def flatS (l : List (Int × Int × Int)) : List Value := l.flatMap fun p => [.int .i64 p.1, .int .i64 p.2.1, .int .i64 p.2.2]
theorem flatS_app (l : List (Int × Int × Int)) (p : Int × Int × Int) : flatS (l ++ [p]) = flatS l ++ [.int .i64 p.1, .int .i64 p.2.1, .int .i64 p.2.2] := by simp [flatS]
def flatW (l : List (Nat × Int)) : List Value := l.flatMap fun p => [.int .i64 p.1, .int .i64 p.2]
theorem flatW_app (l : List (Nat × Int)) (p : Nat × Int) : flatW (l ++ [p]) = flatW l ++ [.int .i64 p.1, .int .i64 p.2] := by simp [flatW]
/-- A list's place, as data. -/
def slD (b o n c : Nat) : DataW Unit := .agg [.lit (.int .i64 b), .lit (.int .i64 o), .lit (.int .i64 n), .lit (.int .i64 c)]
def slR : Value → Option (DataW Unit × List MemPlace)
  | .slice (some ⟨b, o, none⟩) n c => some (slD b o n c, [])
  | .slice none 0 0 => some (.nil, [])
  | _ => none
def slV : Value → DataW Unit
  | .slice (some ⟨b, o, none⟩) n c => slD b o n c
  | _ => .nil
theorem slD_inj {b o n c b' o' n' c' : Nat} (h : slD b o n c = slD b' o' n' c') : b = b' ∧ o = o' ∧ n = n' ∧ c = c' := by
  unfold slD at h
  simp at h
  omega
/-- A list that owns its row, or is nil. -/
def IsSl (v : Value) : Prop := v = .slice none 0 0 ∨ ∃ g n c, v = .slice (some ⟨g, 0, none⟩) n c
theorem slR_of {v : Value} (h : IsSl v) : slR v = some (slV v, []) := by
  rcases h with rfl | ⟨g, n, c, rfl⟩ <;> rfl
theorem slV_inj {v u : Value} (hv : IsSl v) (hu : ∃ ps, slR u = some (slV v, ps)) : u = v := by
  obtain ⟨ps, hu⟩ := hu
  unfold slR at hu
  split at hu
  · injection hu with hu
    have h1 := (Prod.mk.inj hu).1
    rcases hv with rfl | ⟨g, n, c, rfl⟩
    · simp [slV, slD] at h1
    · obtain ⟨rfl, rfl, rfl, rfl⟩ := slD_inj h1
      rfl
  · injection hu with hu
    have h1 := (Prod.mk.inj hu).1
    rcases hv with rfl | ⟨g, n, c, rfl⟩
    · rfl
    · simp [slV, slD] at h1
  · cases hu
theorem row_sl {w : World} {base : Nat} {e : TypeId} {sz : Nat} {v : Value} {n : Nat} {xs : List Value} (h : w.ownsRow base e sz v n xs) : IsSl v := by
  rcases h.2 with ⟨rfl, _⟩ | ⟨g, cap, cur, rfl, _⟩
  · exact .inl rfl
  · exact .inr ⟨g, n, cap, rfl⟩
theorem zero123 (w : World) : (zeroValue 89).run Tryz.prog w = .ok (.slice none 0 0) w := by kernel_rfl
/-- What the map of who watches holds. -/
def Wm (w : World) (W n : Nat) (wv : Int → Value) : Prop := ∃ D : DataW Unit, w.ownsMap Tryz.prog 3 slR W n D ∧ ∀ x : Int, D.atKey (.int .i64 x) .nil = slV (wv x)
theorem Wm.same {w w1 : World} {W n : Nat} {wv : Int → Value} (h : Wm w W n wv) (e : w1.heap[W]? = w.heap[W]?) : Wm w1 W n wv := by
  obtain ⟨D, h1, h2⟩ := h
  exact ⟨D, map_same h1 e, h2⟩
theorem look104 {w : World} {W n : Nat} {wv : Int → Value} (h : Wm w W n wv) {x : Int} (hx : Small x) (hv : IsSl (wv x)) :
    (Instr.lookup 63 (.map (some W)) (.int .i64 x) false).run Tryz.prog w = .ok (wv x) w := by
  obtain ⟨D, h1, h2⟩ := h
  obtain ⟨v, ps, h3, h4⟩ := World.ownsMap.lookup h1 law3 Tryz.underlying63 (zero123 _) (show slR (.slice none 0 0) = some (.nil, []) from rfl) (key3 hx)
  rw [h2 x] at h4
  rw [h3, slV_inj hv ⟨ps, h4⟩]
theorem Wm.put {w1 : World} {W n : Nat} {wv : Int → Value} {D : DataW Unit} (hm : IsMap D) (h2 : ∀ x : Int, D.atKey (.int .i64 x) .nil = slV (wv x)) {x : Int} {v : Value} (h : w1.ownsMap Tryz.prog 3 slR W n (D.put (.int .i64 x) (slV v))) : Wm w1 W n (upd wv x v) := by
  refine ⟨_, h, fun y => ?_⟩
  by_cases e : y = x
  · subst e
    rw [atKey_put_same hm (k := .int .i64 y) trivial, upd_same]
  · rw [atKey_put_other (by simpa using e), upd_ne _ _ e]
    exact h2 y

/-- A board's memory: its block, its two maps, its rows; X: the blocks that are its own. -/
structure Mb (w : World) (X : Nat → Prop) (R S W nS nW : Nat) (vc vs : Value) (wk : Int) (cg cc : Nat → Nat) (wv : Int → Value) (B : Bd) : Prop where
  bd : w.heap[R]? = some (.cells #[vc, vs, .int .i64 B.level, .bool B.lost, .int .i64 wk, .map (some S), .map (some W), .int .i64 B.spread] 66 (0, 0))
  so : Sm w S nS B.st
  wm : Wm w W nW wv
  st : w.ownsRow 0 76 3 vs B.sp.length (flatS B.sp)
  rw : w.ownsRow 0 38 1 vc B.cl.length ((List.range B.cl.length).map fun i => .slice (some ⟨cg i, 0, none⟩) (B.cl.getD i []).length (cc i))
  cl : ∀ i, i < B.cl.length → w.ownsRow 0 3 1 (.slice (some ⟨cg i, 0, none⟩) (B.cl.getD i []).length (cc i)) (B.cl.getD i []).length ((B.cl.getD i []).map (Value.int .i64))
  wl : ∀ x, w.ownsRow 0 73 2 (wv x) (B.wt x).length (flatW (B.wt x))
  cn : ∀ i j, i < B.cl.length → j < B.cl.length → cg i = cg j → i = j
  wn : ∀ x y g, (wv x).ownBlock = some g → (wv y).ownBlock = some g → x = y
  sw : S ≠ W
  xr : X R
  xs : X S
  xw : X W
  xt : ∀ g, vs.ownBlock = some g → X g
  xc : ∀ g, vc.ownBlock = some g → X g
  xi : ∀ i, i < B.cl.length → X (cg i)
  xl : ∀ x g, (wv x).ownBlock = some g → X g
  xb : ∀ g, X g → g < w.heap.size
/-- Nothing but what is the board's has changed; what is new is the board's, or nobody's. -/
structure Fr (X : Nat → Prop) (w w' : World) (X' : Nat → Prop) : Prop where
  os : w'.os = w.os
  tape : w'.tape = w.tape
  output : w'.output = w.output
  size : w.heap.size ≤ w'.heap.size
  far : ∀ g, g < w.heap.size → ¬ X g → w'.heap[g]? = w.heap[g]?
  to : ∀ g, X g → X' g
  fro : ∀ g, g < w.heap.size → X' g → X g
theorem Fr.refl (X : Nat → Prop) (w : World) : Fr X w w X := ⟨rfl, rfl, rfl, Nat.le_refl _, fun _ _ _ => rfl, fun _ h => h, fun _ _ h => h⟩
theorem Fr.trans {X Y Z : Nat → Prop} {a b c : World} (h : Fr X a b Y) (k : Fr Y b c Z) : Fr X a c Z :=
  ⟨k.os.trans h.os, k.tape.trans h.tape, k.output.trans h.output, Nat.le_trans h.size k.size, fun g hg hx => (k.far g (Nat.lt_of_lt_of_le hg h.size) fun e => hx (h.fro g hg e)).trans (h.far g hg hx), fun g e => k.to g (h.to g e), fun g hg e => h.fro g hg (k.fro g (Nat.lt_of_lt_of_le hg h.size) e)⟩
theorem Fr.below {X Y : Nat → Prop} {a b : World} (h : Fr X a b Y) {base : Nat} (hb : base ≤ a.heap.size) (hx : ∀ g, X g → base ≤ g) : Below base a b :=
  ⟨h.os, h.tape, h.output, h.size, fun k hk => h.far k (by omega) fun e => by have := hx k e; omega⟩
theorem Fr.quiet {X : Nat → Prop} {a b : World} (h : Below a.heap.size a b) : Fr X a b X := ⟨h.os, h.tape, h.output, h.size, fun g hg _ => h.block g hg, fun _ e => e, fun _ _ e => e⟩
theorem Fr.cell {X Y : Nat → Prop} {a b : World} (h : Fr X a b Y) {q : Addr} {v : Value} (hq : a.cell? q = some v) (hx : ¬ X q.block) : b.cell? q = some v := by
  rw [World.cell?_of_block (w := a) (h.far _ (World.block_lt_of_cell? _ _ hq) hx)]
  exact hq
section
variable {w : World} {X : Nat → Prop} {R S W nS nW : Nat} {vc vs : Value} {wk : Int} {cg cc : Nat → Nat} {wv : Int → Value} {B : Bd}
theorem Mb.later {w1 : World} (h : Mb w X R S W nS nW vc vs wk cg cc wv B) (hb : Below w.heap.size w w1) : Mb w1 X R S W nS nW vc vs wk cg cc wv B := by
  have lt : ∀ {g o}, w.heap[g]? = some o → g < w.heap.size := fun h => (Array.getElem?_eq_some_iff.1 h).1
  have row : ∀ {e : TypeId} {sz : Nat} {v : Value} {n : Nat} {xs : List Value}, w.ownsRow 0 e sz v n xs → w1.ownsRow 0 e sz v n xs := fun hr => row_same hr fun g hg => hb.block g (hr.lt g hg).2
  refine ⟨(hb.block R (lt h.bd)).trans h.bd, h.so.same ?_, h.wm.same ?_, row h.st, row h.rw, fun i hi => row (h.cl i hi), fun x => row (h.wl x), h.cn, h.wn, h.sw, h.xr, h.xs, h.xw, h.xt, h.xc, h.xi, h.xl, fun g hg => Nat.lt_of_lt_of_le (h.xb g hg) hb.size⟩
  · obtain ⟨D, h1, _⟩ := h.so; exact hb.block S h1.lt
  · obtain ⟨D, h1, _⟩ := h.wm; exact hb.block W h1.lt
theorem Mb.c0 (h : Mb w X R S W nS nW vc vs wk cg cc wv B) : w.cell? ⟨R, 0, none⟩ = some vc := by rw [Lib.cell_of_heap h.bd]; rfl
theorem Mb.c1 (h : Mb w X R S W nS nW vc vs wk cg cc wv B) : w.cell? ⟨R, 1, none⟩ = some vs := by rw [Lib.cell_of_heap h.bd]; rfl
theorem Mb.c2 (h : Mb w X R S W nS nW vc vs wk cg cc wv B) : w.cell? ⟨R, 2, none⟩ = some (.int .i64 B.level) := by rw [Lib.cell_of_heap h.bd]; rfl
theorem Mb.c3 (h : Mb w X R S W nS nW vc vs wk cg cc wv B) : w.cell? ⟨R, 3, none⟩ = some (.bool B.lost) := by rw [Lib.cell_of_heap h.bd]; rfl
theorem Mb.c4 (h : Mb w X R S W nS nW vc vs wk cg cc wv B) : w.cell? ⟨R, 4, none⟩ = some (.int .i64 wk) := by rw [Lib.cell_of_heap h.bd]; rfl
theorem Mb.c5 (h : Mb w X R S W nS nW vc vs wk cg cc wv B) : w.cell? ⟨R, 5, none⟩ = some (.map (some S)) := by rw [Lib.cell_of_heap h.bd]; rfl
theorem Mb.c6 (h : Mb w X R S W nS nW vc vs wk cg cc wv B) : w.cell? ⟨R, 6, none⟩ = some (.map (some W)) := by rw [Lib.cell_of_heap h.bd]; rfl
theorem Mb.c7 (h : Mb w X R S W nS nW vc vs wk cg cc wv B) : w.cell? ⟨R, 7, none⟩ = some (.int .i64 B.spread) := by rw [Lib.cell_of_heap h.bd]; rfl
theorem Mb.fz (h : Mb w X R S W nS nW vc vs wk cg cc wv B) (k : Nat) : w.frozen? ⟨R, k, none⟩ = false := Lib.frozen_of_heap h.bd k
end
end Go.Proofs.YtkinmangilbeeaaGreatDoor.Pf
