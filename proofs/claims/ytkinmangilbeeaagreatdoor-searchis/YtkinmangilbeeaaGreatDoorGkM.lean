/- Gates: a maker goes on from a graph. -/
import Derived.Test.YtkinmangilbeeaaGreatDoorGeM
import Derived.Deep.DeepAppendWide
import Derived.Lib.SliceRun
import Derived.Deep.Onto
import Derived.Deep.RegionLaw
import Derived.Deep.AppendLies
namespace Go.Proofs.YtkinmangilbeeaaGreatDoor
open Go.RowKit Go.Maps Go.WideMaps
set_option maxRecDepth 100000

theorem zero3 (w : World) : (zeroValue 3).run Tryz.prog w = .ok (.int .i64 0) w := by kernel_rfl
/-- The cells of pairs. -/
def flat (ps : List (Int × Int)) : List Value := ps.flatMap (fun p => [.int .i64 p.1, .int .i64 p.2])
theorem flat_len (ps : List (Int × Int)) : (flat ps).length = ps.length * 2 := by
  unfold flat
  induction ps with
  | nil => rfl
  | cons a l ih => simp [List.flatMap_cons, ih]; omega
theorem flat_snoc (ps : List (Int × Int)) (a b : Int) : flat (ps ++ [(a, b)]) = flat ps ++ [.int .i64 a, .int .i64 b] := by simp [flat, List.flatMap_append]
theorem flat_get (ps : List (Int × Int)) (i : Nat) (h : i < ps.length) : (flat ps)[i * 2]? = some (.int .i64 ps[i].1) ∧ (flat ps)[i * 2 + 1]? = some (.int .i64 ps[i].2) := by
  induction ps generalizing i with
  | nil => simp at h
  | cons a l ih =>
    have e : flat (a :: l) = .int .i64 a.1 :: .int .i64 a.2 :: flat l := by simp [flat, List.flatMap_cons]
    rw [e]
    cases i with
    | zero => simp
    | succ i =>
      have := ih i (by simpa using h)
      rw [show (i + 1) * 2 = i * 2 + 1 + 1 from by omega]
      simpa using this
theorem flat_one (ps : List (Int × Int)) (j : Nat) (u : Value) (h : (flat ps)[j]? = some u) : ∃ i, ∃ (hi : i < ps.length), (j = i * 2 ∧ u = .int .i64 ps[i].1) ∨ (j = i * 2 + 1 ∧ u = .int .i64 ps[i].2) := by
  have hj : j < ps.length * 2 := by rw [← flat_len]; exact (List.getElem?_eq_some_iff.1 h).1
  have hi : j / 2 < ps.length := by omega
  have hg := flat_get ps (j / 2) hi
  refine ⟨j / 2, hi, ?_⟩
  rcases Nat.mod_two_eq_zero_or_one j with h0 | h0
  · left
    have e : j / 2 * 2 = j := by omega
    rw [e, h] at hg
    exact ⟨e.symm, by simpa using hg.1⟩
  · right
    have e : j / 2 * 2 + 1 = j := by omega
    rw [e, h] at hg
    exact ⟨e.symm, by simpa using hg.2⟩

theorem flat_cell (ps : List (Int × Int)) : ∀ u ∈ flat ps, u.oneCell' = true := by
  intro u hu
  obtain ⟨j, hj⟩ := List.mem_iff_getElem?.1 hu
  obtain ⟨i, hi, h | h⟩ := flat_one ps j u hj <;> (rw [h.2]; rfl)

theorem pairs_cells {w : World} {ps : List (Int × Int)} {ad : Addr} (h : PairsAt w (some ad) ps) : ∀ j u, (flat ps)[j]? = some u → w.cell? (ad.add j) = some u := by
  intro j u hj
  obtain ⟨i, hi, h1⟩ := flat_one ps j u hj
  obtain ⟨b, off, e, hc⟩ := h (by omega)
  cases e
  rw [Addr.add_lit]
  rcases h1 with ⟨rfl, rfl⟩ | ⟨rfl, rfl⟩
  · exact (hc i hi).1
  · exact (hc i hi).2

theorem owns_pairs {w : World} {base : Nat} {v : Value} {ps : List (Int × Int)} (h : w.ownsRow base 36 2 v ps.length (flat ps)) : ∃ p cap, v = .slice p ps.length cap ∧ PairsAt w p ps := by
  have h' := h
  obtain ⟨h1, h2⟩ := h
  rcases h2 with ⟨rfl, h0⟩ | ⟨g, cap, cur, rfl, hg, hh, hn, hm, hs, ht⟩
  · exact ⟨none, 0, by rw [h0], fun h => by omega⟩
  · refine ⟨_, cap, rfl, fun _ => ⟨g, 0, rfl, fun i hi => ?_⟩⟩
    rw [Nat.zero_add, h'.cellAt (i * 2) (by omega), h'.cellAt (i * 2 + 1) (by omega)]
    exact flat_get ps i hi

theorem owns_below {w w1 : World} {base e size n : Nat} {v : Value} {xs : List Value} (h : w.ownsRow base e size v n xs) (hb : Below w.heap.size w w1) : w1.ownsRow base e size v n xs := by
  obtain ⟨h1, h2⟩ := h
  refine ⟨h1, ?_⟩
  rcases h2 with h2 | ⟨g, cap, cur, rfl, hg, hh, hr⟩
  · exact .inl h2
  · exact .inr ⟨g, cap, cur, rfl, hg, by rw [hb.block g (Array.getElem?_eq_some_iff.1 hh).1]; exact hh, hr⟩

theorem map_below {w w1 : World} {P : Program} {k : TypeId} {R : Value → Option (DataW Unit × List MemPlace)} {b n : Nat} {D : DataW Unit} (h : w.ownsMap P k R b n D) (hb : Below w.heap.size w w1) : w1.ownsMap P k R b n D := by
  have hlt := h.lt
  obtain ⟨es, clock, hh, hr⟩ := h
  exact ⟨es, clock, by rw [hb.block b hlt]; exact hh, hr⟩

end Go.Proofs.YtkinmangilbeeaaGreatDoor

namespace Go.Proofs.YtkinmangilbeeaaGreatDoor
open Go.RowKit Go.Maps Go.WideMaps
set_option maxRecDepth 100000

theorem andAt_succ (ps : List (Int × Int)) (k : Nat) (h : k < ps.length) (x : Int × Int) : andAt ps (k + 1) x = if 0 ≤ andAt ps k x then andAt ps k x else if ps[k] = x then (k : Int) else -1 := by
  unfold andAt
  rw [List.take_succ_eq_append_getElem h, List.findIdx?_append]
  cases h1 : (ps.take k).findIdx? (· == x) with
  | some i => simp
  | none =>
    by_cases e : ps[k] = x
    · simp [e]; omega
    · simp [e]

/-- What the maker's map holds: the first k pairs' literals. -/
structure MapIs (ins : Int) (ps : List (Int × Int)) (k : Nat) (D : DataW Unit) : Prop where
  has : ∀ a b, Wf a → Wf b → Maps.has D (keyL a b) = decide (0 ≤ andAt ps k (a, b))
  lit : dupN ps k = false → ∀ a b, Wf a → Wf b → 0 ≤ andAt ps k (a, b) → D.atKey (keyL a b) (.lit (.int .i64 0)) = .lit (.int .i64 (2 * (1 + ins + andAt ps k (a, b))))
  once : dupN ps k = false → Maps.size D = k
  twice : dupN ps k = true → Maps.size D < k

theorem andAt_zero (ps : List (Int × Int)) (x : Int × Int) : andAt ps 0 x = -1 := by simp [andAt]

theorem mapIs_zero (ins : Int) (ps : List (Int × Int)) : MapIs ins ps 0 (.map []) :=
  ⟨fun a b _ _ => by rw [andAt_zero]; rfl, fun _ a b _ _ h => by rw [andAt_zero] at h; omega, fun _ => rfl, fun h => by simp [dupN] at h⟩

theorem keyL_key (a b : Int) : WideAt.IsKeyLit (keyL a b) := trivial

/-- A maker's memory. -/
structure Mk (w : World) (base M B : Nat) (v : Value) (ins : Int) (ps : List (Int × Int)) : Prop where
  c0 : w.cell? ⟨M, 0, none⟩ = some (.int .i64 ins)
  c1 : w.cell? ⟨M, 1, none⟩ = some v
  c2 : w.cell? ⟨M, 2, none⟩ = some (.map (some B))
  f1 : w.frozen? ⟨M, 1, none⟩ = false
  row : w.ownsRow base 36 2 v ps.length (flat ps)
  hM : base ≤ M
  hB : base ≤ B
  ne : M ≠ B
  nv : v.ownBlock ≠ some M
  nb : v.ownBlock ≠ some B

theorem grown_frozen {w w1 : World} {row : Option Nat} {a : Addr} {v : Value} (hg : w.grownBy w1 row) (h : w.cell? a = some v) (hne : some a.block ≠ row) : w1.frozen? a = w.frozen? a :=
  World.frozen?_of_block (w := w) (hg.block a.block (World.block_lt_of_cell? _ _ h) hne)
theorem Mk.grown {w w1 : World} {base M B : Nat} {v : Value} {ins : Int} {ps : List (Int × Int)} (h : Mk w base M B v ins ps) (hg : w.grownBy w1 (some B)) : Mk w1 base M B v ins ps :=
  ⟨hg.cell h.c0 (by simpa using h.ne), hg.cell h.c1 (by simpa using h.ne), hg.cell h.c2 (by simpa using h.ne), (grown_frozen hg h.c1 (by simpa using h.ne)).trans h.f1, h.row.kept hg (Or.inr h.nb), h.hM, h.hB, h.ne, h.nv, h.nb⟩
theorem Mk.below {w w1 : World} {base M B : Nat} {v : Value} {ins : Int} {ps : List (Int × Int)} (h : Mk w base M B v ins ps) (hb : Below w.heap.size w w1) : Mk w1 base M B v ins ps :=
  ⟨cell_later hb h.c0, cell_later hb h.c1, cell_later hb h.c2, by rw [hb.frozen (World.block_lt_of_cell? _ _ h.c1)]; exact h.f1, owns_below h.row hb, h.hM, h.hB, h.ne, h.nv, h.nb⟩

theorem wrap_id {x : Int} (h0 : -9223372036854775808 ≤ x) (h1 : x ≤ 9223372036854775807) : IntKind.i64.wrap x = x := by rw [IntKind.wrap_i64]; omega

/-- What is at hand ahead of the loop. -/
structure Rdy (w W2 : World) (M B : Nat) (v : Value) (ins : Int) (ps : List (Int × Int)) (p : Option Addr) (cap : Nat) : Prop where
  mem : Mk W2 w.heap.size M B v ins ps
  own : W2.ownsMap Tryz.prog 36 (plainElem (H := Unit) Tryz.prog 3) B 0 (.map [])
  bel : Below w.heap.size w W2
  nB : w.heap.size ≠ B
  q0 : W2.cell? ⟨w.heap.size, 0, none⟩ = some (.int .i64 ins)
  q1 : W2.cell? ⟨w.heap.size, 1, none⟩ = some (.slice p ps.length cap)

theorem rdy_one {w w1 : World} {ins : Int} {ps : List (Int × Int)} {p pv : Option Addr} {cap cv : Nat} (hr : w1.ownsRow (w.alloc (.cells #[.int .i64 ins, .slice p ps.length cap] 39)).drew.heap.size 36 2 (.slice pv ps.length cv) ps.length (flat ps))
    (hb : Below (w.alloc (.cells #[.int .i64 ins, .slice p ps.length cap] 39)).drew.heap.size (w.alloc (.cells #[.int .i64 ins, .slice p ps.length cap] 39)).drew w1) :
    Rdy w ((w1.alloc (.map #[] 0)).alloc (.cells #[.int .i64 ins, .slice pv ps.length cv, .map (some w1.heap.size)] 107)) (w1.heap.size + 1) w1.heap.size (.slice pv ps.length cv) ins ps p cap := by
  have hs := hb.size
  simp at hs
  have hlt := hr.lt
  refine ⟨⟨by simp [go_sem], by simp [go_sem], by simp [go_sem], by simp [go_sem], ((hr.alloc _).alloc _).mono (by simp), by omega, by omega, by omega, fun e => ?_, fun e => ?_⟩, ?_, ?_, by omega, ?_, ?_⟩
  · have := (hlt _ e).2; omega
  · have := (hlt _ e).2; omega
  · exact (World.ownsMap_made w1 Tryz.prog 36 (plainElem Tryz.prog 3)).alloc _
  · exact bal (bal (bthen (bal (Below.refl _ _) _).drew hb) _) _
  · exact past1 (past1 (cell_later hb (by simp [go_sem])) _) _
  · exact past1 (past1 (cell_later hb (by simp [go_sem])) _) _

theorem rdy_two {w w1 : World} {ins : Int} {ps : List (Int × Int)} {p pv : Option Addr} {cap cv : Nat} (hr : w1.ownsRow ((w.alloc (.cells #[.int .i64 ins, .slice p ps.length cap] 39)).alloc (.map #[] 0)).drew.heap.size 36 2 (.slice pv ps.length cv) ps.length (flat ps))
    (hb : Below ((w.alloc (.cells #[.int .i64 ins, .slice p ps.length cap] 39)).alloc (.map #[] 0)).drew.heap.size ((w.alloc (.cells #[.int .i64 ins, .slice p ps.length cap] 39)).alloc (.map #[] 0)).drew w1) :
    Rdy w (w1.alloc (.cells #[.int .i64 ins, .slice pv ps.length cv, .map (some (w.heap.size + 1))] 107)) w1.heap.size (w.heap.size + 1) (.slice pv ps.length cv) ins ps p cap := by
  have hs := hb.size
  simp at hs
  have hlt := hr.lt
  simp at hlt
  refine ⟨⟨by simp [go_sem], by simp [go_sem], by simp [go_sem], by simp [go_sem], (hr.alloc _).mono (by simp; omega), by omega, by omega, by omega, fun e => ?_, fun e => ?_⟩, ?_, ?_, by omega, ?_, ?_⟩
  · have := (hlt _ e).2; omega
  · have := (hlt _ e).1; omega
  · have := (World.ownsMap_made (w.alloc (.cells #[.int .i64 ins, .slice p ps.length cap] 39)) Tryz.prog 36 (plainElem (H := Unit) Tryz.prog 3)).drew
    simp at this
    exact (map_below this hb).alloc _
  · exact bal (bthen (bal (bal (Below.refl _ _) _) _).drew hb) _
  · exact past1 (cell_later hb (by simp [go_sem])) _
  · exact past1 (cell_later hb (by simp [go_sem])) _

end Go.Proofs.YtkinmangilbeeaaGreatDoor

namespace Go.Proofs.YtkinmangilbeeaaGreatDoor
open Go.RowKit Go.Maps Go.WideMaps
set_option maxRecDepth 100000

/-- What checked leaves. -/
def Checked (w w' : World) (ins : Int) (ps : List (Int × Int)) (v : Value) : Prop :=
  if chkE ins ps = 0 then ∃ M B u D, v = .pointer (some ⟨M, 0, none⟩) ∧ Mk w' w.heap.size M B u ins ps ∧ w'.ownsMap Tryz.prog 36 (plainElem (H := Unit) Tryz.prog 3) B ps.length D ∧ MapIs ins ps ps.length D
  else v = .pointer none

end Go.Proofs.YtkinmangilbeeaaGreatDoor

namespace Go.Proofs.YtkinmangilbeeaaGreatDoor
open Go.RowKit Go.Maps Go.WideMaps
set_option maxRecDepth 100000

def addLit (ins : Int) (ps : List (Int × Int)) (x : Int × Int) : Int := if 0 ≤ andAt ps ps.length x then 2 * (1 + ins + andAt ps ps.length x) else if 1000000 ≤ ps.length then 0 else 2 * (1 + ins + ps.length)
def addOk (ps : List (Int × Int)) (x : Int × Int) : Bool := decide (0 ≤ andAt ps ps.length x) || decide (ps.length < 1000000)
def addPs (ps : List (Int × Int)) (x : Int × Int) : List (Int × Int) := if 0 ≤ andAt ps ps.length x then ps else if 1000000 ≤ ps.length then ps else ps ++ [x]

theorem lit_inj {c d : Int} (h : (DataW.lit (.int .i64 c) : DataW Unit) = .lit (.int .i64 d)) : c = d := by
  injection h with h
  injection h

theorem cell_set_far {w : World} {p q : Addr} {u x : Value} (h : w.cell? q = some x) (hne : q.block ≠ p.block) : (w.setCell p u).cell? q = some x := by
  rw [World.cell?_of_block (w := w) (Below.heap_setCell w p u q.block hne)]; exact h
theorem owns_set {w : World} {base e size n : Nat} {v u : Value} {xs : List Value} {p : Addr} (h : w.ownsRow base e size v n xs) (hne : v.ownBlock ≠ some p.block) : (w.setCell p u).ownsRow base e size v n xs := by
  obtain ⟨h1, h2⟩ := h
  refine ⟨h1, ?_⟩
  rcases h2 with h2 | ⟨g, cap, cur, rfl, hg, hh, hr⟩
  · exact .inl h2
  · exact .inr ⟨g, cap, cur, rfl, hg, by rw [Below.heap_setCell w p u g (fun e => hne (by simp [Value.ownBlock, e]))]; exact hh, hr⟩

theorem add_mem {w1 w2 : World} {base M B n g cap cv : Nat} {pv : Option Addr} {D : DataW Unit} {ins a b : Int} {ps : List (Int × Int)} {o : Obj} (hn : ps.length = n) (hbs : base ≤ w1.heap.size)
    (hmk : Mk w1 base M B (.slice pv n cv) ins ps) (hown : w1.ownsMap Tryz.prog 36 (plainElem Tryz.prog 3) B n D) (hg : (w1.alloc o).drew.grownBy w2 (Value.ownBlock (.slice pv n cv)))
    (hrow : w2.ownsRow base 36 2 (.slice (some ⟨g, 0, none⟩) (n + 1) cap) (n + 1) (flat ps ++ [.int .i64 a, .int .i64 b])) (hat : Value.ownBlock (.slice pv n cv) = some g ∨ g = w1.heap.size + 1) :
    Mk (w2.setCell ⟨M, 1, none⟩ (.slice (some ⟨g, 0, none⟩) (n + 1) cap)) base M B (.slice (some ⟨g, 0, none⟩) (n + 1) cap) ins (ps ++ [(a, b)]) ∧
    (w2.setCell ⟨M, 1, none⟩ (.slice (some ⟨g, 0, none⟩) (n + 1) cap)).ownsMap Tryz.prog 36 (plainElem Tryz.prog 3) B n D ∧
    (∀ w0, Below base w0 w1 → Below base w0 (w2.setCell ⟨M, 1, none⟩ (.slice (some ⟨g, 0, none⟩) (n + 1) cap))) ∧
    (∀ (q : Addr) x, w1.cell? q = some x → q.block ≠ M → some q.block ≠ Value.ownBlock (.slice pv n cv) → (w2.setCell ⟨M, 1, none⟩ (.slice (some ⟨g, 0, none⟩) (n + 1) cap)).cell? q = some x) := by
  have hM := World.block_lt_of_cell? _ _ hmk.c1
  simp only at hM
  have hBl := hown.lt
  have hgM : g ≠ M := by
    rcases hat with h | h
    · intro e; exact hmk.nv (by rw [h, e])
    · omega
  have hgB : g ≠ B := by
    rcases hat with h | h
    · intro e; exact hmk.nb (by rw [h, e])
    · omega
  have k0 := hg.cell (past1 hmk.c0 o) (fun e => hmk.nv e.symm)
  have k1 := hg.cell (past1 hmk.c1 o) (fun e => hmk.nv e.symm)
  have k2 := hg.cell (past1 hmk.c2 o) (fun e => hmk.nv e.symm)
  have kf : w2.frozen? ⟨M, 1, none⟩ = false := by
    rw [grown_frozen hg (past1 hmk.c1 o) (fun e => hmk.nv e.symm)]
    have hb : Below w1.heap.size w1 (w1.alloc o).drew := (bal (Below.refl _ _) o).drew
    rw [hb.frozen hM]
    exact hmk.f1
  subst hn
  refine ⟨⟨?_, ?_, ?_, ?_, ?_, hmk.hM, hmk.hB, hmk.ne, ?_, ?_⟩, ?_, ?_, ?_⟩
  · rw [World.cell?_setCell_other w2 _ _ _ (by simp)]; exact k0
  · exact World.cell?_setCell_same w2 _ _ k1
  · rw [World.cell?_setCell_other w2 _ _ _ (by simp)]; exact k2
  · rw [World.frozen?_setCell]; exact kf
  · rw [flat_snoc, List.length_append]
    exact owns_set hrow (by simpa [Value.ownBlock] using hgM)
  · simpa [Value.ownBlock] using hgM
  · simpa [Value.ownBlock] using hgB
  · exact ((hown.alloc o).drew.kept hg (fun e => hmk.nb e.symm)).setCell hmk.ne.symm _
  · intro w0 hb
    refine Below.setCell ((hb.alloc hbs o).drew.grown hg (by simp; omega) (fun k hk => (hmk.row.lt k hk).1)) hmk.hM _
  · intro q x hq h1 h2
    exact cell_set_far (hg.cell (past1 hq o) h2) h1

end Go.Proofs.YtkinmangilbeeaaGreatDoor

namespace Go.Proofs.YtkinmangilbeeaaGreatDoor
open Go.RowKit Go.Maps Go.WideMaps
set_option maxRecDepth 100000

/-- The And of two literals, the lesser one first: its literal, whether it could be made, and the graph's Ands then. -/
def makLit (ins : Int) (ps : List (Int × Int)) (a b : Int) : Int := if a = 0 ∨ a = turn b then 0 else if a = 1 ∨ a = b then b else addLit ins ps (a, b)
def makOk (ps : List (Int × Int)) (a b : Int) : Bool := if a = 0 ∨ a = turn b then true else if a = 1 ∨ a = b then true else addOk ps (a, b)
def makPs (ps : List (Int × Int)) (a b : Int) : List (Int × Int) := if a = 0 ∨ a = turn b then ps else if a = 1 ∨ a = b then ps else addPs ps (a, b)

theorem mak_no {ins : Int} {ps : List (Int × Int)} {a b : Int} (h : a = 0 ∨ a = turn b) : makLit ins ps a b = 0 ∧ makOk ps a b = true ∧ makPs ps a b = ps := by
  unfold makLit makOk makPs; rw [if_pos h, if_pos h, if_pos h]; exact ⟨rfl, rfl, rfl⟩
theorem mak_one {ins : Int} {ps : List (Int × Int)} {a b : Int} (h : ¬ (a = 0 ∨ a = turn b)) (h2 : a = 1 ∨ a = b) : makLit ins ps a b = b ∧ makOk ps a b = true ∧ makPs ps a b = ps := by
  unfold makLit makOk makPs; rw [if_neg h, if_neg h, if_neg h, if_pos h2, if_pos h2, if_pos h2]; exact ⟨rfl, rfl, rfl⟩
theorem mak_add {ins : Int} {ps : List (Int × Int)} {a b : Int} (h : ¬ (a = 0 ∨ a = turn b)) (h2 : ¬ (a = 1 ∨ a = b)) : makLit ins ps a b = addLit ins ps (a, b) ∧ makOk ps a b = addOk ps (a, b) ∧ makPs ps a b = addPs ps (a, b) := by
  unfold makLit makOk makPs; rw [if_neg h, if_neg h, if_neg h, if_neg h2, if_neg h2, if_neg h2]; exact ⟨rfl, rfl, rfl⟩

theorem turn_ne (x : Int) : x ≠ turn x := by unfold turn; split <;> omega

def andLit (ins : Int) (ps : List (Int × Int)) (a b : Int) : Int := makLit ins ps (min a b) (max a b)
def andOk (ps : List (Int × Int)) (a b : Int) : Bool := makOk ps (min a b) (max a b)
def andPs (ps : List (Int × Int)) (a b : Int) : List (Int × Int) := makPs ps (min a b) (max a b)

end Go.Proofs.YtkinmangilbeeaaGreatDoor

namespace Go.Proofs.YtkinmangilbeeaaGreatDoor
open Go.RowKit Go.Maps Go.WideMaps
set_option maxRecDepth 100000

/-- What And says. -/
def andE (ins : Int) (ps : List (Int × Int)) (a b : Int) : Int :=
  if chkE ins ps ≠ 0 then chkE ins ps else if [a, b].any (noLit (2 * (1 + ins + ps.length))) = true then 5 else if andOk ps a b = false then 2 else 0
def outIns (ins e : Int) : Int := if e = 0 then ins else 0
def outLit (ins : Int) (ps : List (Int × Int)) (a b e : Int) : Int := if e = 0 then andLit ins ps a b else 0
def outPs (ps : List (Int × Int)) (a b e : Int) : List (Int × Int) := if e = 0 then andPs ps a b else []

theorem out_no {ins : Int} {ps : List (Int × Int)} {a b e : Int} (h : e ≠ 0) : outIns ins e = 0 ∧ outLit ins ps a b e = 0 ∧ outPs ps a b e = [] := by
  unfold outIns outLit outPs; rw [if_neg h, if_neg h, if_neg h]; exact ⟨rfl, rfl, rfl⟩
theorem out_ok {ins : Int} {ps : List (Int × Int)} {a b : Int} : outIns ins 0 = ins ∧ outLit ins ps a b 0 = andLit ins ps a b ∧ outPs ps a b 0 = andPs ps a b := by
  unfold outIns outLit outPs; rw [if_pos rfl, if_pos rfl, if_pos rfl]; exact ⟨rfl, rfl, rfl⟩

/-- What And leaves. -/
def AndOut (w' : World) (e : Ending) (ins : Int) (ps : List (Int × Int)) (a b : Int) : Prop := ∃ pv cv,
  e = .returned (.tuple #[gval (outIns ins (andE ins ps a b)) pv (outPs ps a b (andE ins ps a b)).length cv, .int .i64 (outLit ins ps a b (andE ins ps a b)), .int .i64 (andE ins ps a b)]) ∧
      PairsAt w' pv (outPs ps a b (andE ins ps a b))
theorem andOut_no {w' : World} {ins : Int} {ps : List (Int × Int)} {a b e : Int} (he : andE ins ps a b = e) (hne : e ≠ 0) : AndOut w' (.returned (.tuple #[gval 0 none 0 0, .int .i64 0, .int .i64 e])) ins ps a b := by
  subst he
  obtain ⟨h1, h2, h3⟩ := out_no (ins := ins) (ps := ps) (a := a) (b := b) hne
  refine ⟨none, 0, ?_, ?_⟩
  · rw [h1, h2, h3]; rfl
  · rw [h3]; exact fun h => by simp at h
theorem andOut_ok {w' : World} {ins : Int} {ps : List (Int × Int)} {a b : Int} {pv : Option Addr} {cv : Nat} (he : andE ins ps a b = 0) (hp : PairsAt w' pv (andPs ps a b)) : AndOut w' (.returned (.tuple #[gval ins pv (andPs ps a b).length cv, .int .i64 (andLit ins ps a b), .int .i64 0])) ins ps a b := by
  obtain ⟨h1, h2, h3⟩ := out_ok (ins := ins) (ps := ps) (a := a) (b := b)
  unfold AndOut
  rw [he, h1, h2, h3]
  exact ⟨pv, cv, rfl, hp⟩

theorem two_any (f : Int → Bool) (a b : Int) : [a, b].any f = (f a || f b) := by simp

theorem pairs_two {w : World} {a b : Int} : IntsAt (w.alloc (.cells #[.int .i64 a, .int .i64 b] 3)) (some ⟨w.heap.size, 0, none⟩) [a, b] := fun _ => ⟨w.heap.size, 0, rfl, fun i hi => by
  match i, hi with
  | 0, _ => simp [go_sem]
  | 1, _ => simp [go_sem]⟩

end Go.Proofs.YtkinmangilbeeaaGreatDoor
