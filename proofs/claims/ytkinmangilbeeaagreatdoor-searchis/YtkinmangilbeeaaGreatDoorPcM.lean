/- A queue in memory: Len, Less, Swap. -/
import Derived.Test.YtkinmangilbeeaaGreatDoorPb
namespace Go.Proofs.YtkinmangilbeeaaGreatDoor.Sr
open Go.RowKit Go.Maps Go.Proofs.YtkinmangilbeeaaGreatDoor.Pf
set_option maxRecDepth 100000

/-- A queue: what is heaped, where each stands, what each weighs, what is gained. -/
structure Qu where
  hp : List Int
  pl : List Int
  wt : List Int
  gain : Int
def Qu.w (Q : Qu) (v : Int) : Int := Q.wt.getD v.toNat 0
def Qu.at (Q : Qu) (i : Nat) : Int := Q.hp.getD i 0
def Qu.less (Q : Qu) (i j : Nat) : Bool := if Q.w (Q.at i) = Q.w (Q.at j) then decide (Q.at i < Q.at j) else decide (Q.w (Q.at j) < Q.w (Q.at i))
def Qu.swap (Q : Qu) (i j : Nat) : Qu := { Q with hp := (Q.hp.set i (Q.at j)).set j (Q.at i), pl := (Q.pl.set (Q.at i).toNat j).set (Q.at j).toNat i }
/-- All that is heaped has a place and a weight. -/
structure QOk (n : Nat) (Q : Qu) : Prop where
  pl : Q.pl.length = n
  wt : Q.wt.length = n
  hp : ∀ v ∈ Q.hp, 0 ≤ v ∧ v < n
  len : Q.hp.length ≤ 1000000
  n : n ≤ 1000000
theorem Qu.at_mem {Q : Qu} {i : Nat} (h : i < Q.hp.length) : Q.at i ∈ Q.hp := by
  unfold Qu.at
  rw [List.getD_eq_getElem?_getD, List.getElem?_eq_getElem h]
  exact List.getElem_mem h
theorem QOk.swap {n : Nat} {Q : Qu} (h : QOk n Q) {i j : Nat} (hi : i < Q.hp.length) (hj : j < Q.hp.length) : QOk n (Q.swap i j) := by
  refine ⟨by simp [Qu.swap, h.pl], h.wt, fun v hv => ?_, by simp [Qu.swap, h.len], h.n⟩
  rcases List.mem_or_eq_of_mem_set hv with hv | rfl
  · rcases List.mem_or_eq_of_mem_set hv with hv | rfl
    · exact h.hp v hv
    · exact h.hp _ (Qu.at_mem hj)
  · exact h.hp _ (Qu.at_mem hi)
/-- Where a queue lies. -/
structure Qm (w : World) (X : Nat → Prop) (q gp gw : Nat) (vh : Value) (Q : Qu) : Prop where
  bk : w.heap[q]? = some (.cells #[vh, .slice (some ⟨gp, 0, none⟩) Q.pl.length Q.pl.length, .slice (some ⟨gw, 0, none⟩) Q.wt.length Q.wt.length, .int .i64 Q.gain] 92 (0, 0))
  hp : w.ownsRow 0 3 1 vh Q.hp.length (Q.hp.map (Value.int .i64))
  pl : w.heap[gp]? = some (.cells (Q.pl.map (Value.int .i64)).toArray 3 (0, 0))
  wt : w.heap[gw]? = some (.cells (Q.wt.map (Value.int .i64)).toArray 3 (0, 0))
  ne : gp ≠ gw
  np : vh.ownBlock ≠ some gp
  nw : vh.ownBlock ≠ some gw
  xq : X q
  xp : X gp
  xw : X gw
  xh : ∀ g, vh.ownBlock = some g → X g
  xb : ∀ g, X g → g < w.heap.size
section
variable {w : World} {X : Nat → Prop} {q gp gw : Nat} {vh : Value} {Q : Qu}
theorem Qm.c0 (h : Qm w X q gp gw vh Q) : w.cell? ⟨q, 0, none⟩ = some vh := by rw [Lib.cell_of_heap h.bk]; rfl
theorem Qm.c1 (h : Qm w X q gp gw vh Q) : w.cell? ⟨q, 1, none⟩ = some (.slice (some ⟨gp, 0, none⟩) Q.pl.length Q.pl.length) := by rw [Lib.cell_of_heap h.bk]; rfl
theorem Qm.c2 (h : Qm w X q gp gw vh Q) : w.cell? ⟨q, 2, none⟩ = some (.slice (some ⟨gw, 0, none⟩) Q.wt.length Q.wt.length) := by rw [Lib.cell_of_heap h.bk]; rfl
theorem Qm.c3 (h : Qm w X q gp gw vh Q) : w.cell? ⟨q, 3, none⟩ = some (.int .i64 Q.gain) := by rw [Lib.cell_of_heap h.bk]; rfl
theorem Qm.fz (h : Qm w X q gp gw vh Q) (k : Nat) : w.frozen? ⟨q, k, none⟩ = false := Lib.frozen_of_heap h.bk k
theorem Qm.sl (h : Qm w X q gp gw vh Q) : ∃ p c, vh = .slice p Q.hp.length c := by
  rcases h.hp.2 with ⟨rfl, h0⟩ | ⟨g, cap, cur, rfl, _⟩
  · exact ⟨none, 0, by rw [h0]⟩
  · exact ⟨_, _, rfl⟩
theorem Qm.row (h : Qm w X q gp gw vh Q) {i : Nat} (hi : i < Q.hp.length) : ∃ g cap, vh = .slice (some ⟨g, 0, none⟩) Q.hp.length cap ∧ ∀ k, k < Q.hp.length → w.cell? ⟨g, k, none⟩ = some (.int .i64 (Q.at k)) ∧ w.frozen? ⟨g, k, none⟩ = false := by
  rcases h.hp.2 with ⟨_, h0⟩ | ⟨g, cap, cur, e, _, hg, hn, hm, hs, ht⟩
  · omega
  · refine ⟨g, cap, e, fun k hk => ⟨?_, Lib.frozen_of_heap hg k⟩⟩
    rw [Lib.cell_of_heap hg]
    have h1 : cur.toList[k]? = (Q.hp.map (Value.int .i64))[k]? := by rw [← ht, List.getElem?_take, if_pos (by omega)]
    rw [← Array.getElem?_toList, h1, List.getElem?_map, List.getElem?_eq_getElem hk]
    unfold Qu.at
    rw [List.getD_eq_getElem?_getD, List.getElem?_eq_getElem hk]
    rfl
theorem map_cell {w : World} {g : Nat} {l : List Int} (h : w.heap[g]? = some (.cells (l.map (Value.int .i64)).toArray 3 (0, 0))) {k : Nat} (hk : k < l.length) : w.cell? ⟨g, k, none⟩ = some (.int .i64 (l.getD k 0)) ∧ w.frozen? ⟨g, k, none⟩ = false := by
  refine ⟨?_, Lib.frozen_of_heap h k⟩
  rw [Lib.cell_of_heap h, List.getElem?_toArray, List.getElem?_map, List.getElem?_eq_getElem hk, List.getD_eq_getElem?_getD, List.getElem?_eq_getElem hk]
  rfl
theorem Qm.far (h : Qm w X q gp gw vh Q) {w' : World} (hs : w.heap.size ≤ w'.heap.size) (hb : ∀ g, X g → w'.heap[g]? = w.heap[g]?) : Qm w' X q gp gw vh Q :=
  ⟨(hb q h.xq).trans h.bk, row_same h.hp fun g hg => hb g (h.xh g hg), (hb gp h.xp).trans h.pl, (hb gw h.xw).trans h.wt, h.ne, h.np, h.nw, h.xq, h.xp, h.xw, h.xh, fun g hg => Nat.lt_of_lt_of_le (h.xb g hg) hs⟩
theorem Qm.later (h : Qm w X q gp gw vh Q) {w' : World} (hb : Below w.heap.size w w') : Qm w' X q gp gw vh Q := h.far hb.size fun g hg => hb.block g (h.xb g hg)
end
set_option maxHeartbeats 1000000 in
theorem len_any (w : World) (X : Nat → Prop) (q gp gw : Nat) (vh : Value) (Q : Qu) (h : Qm w X q gp gw vh Q) :
    Calls Tryz.prog 63 #[.pointer (some ⟨q, 0, none⟩)] w fun e w' => e = .returned (.int .i64 Q.hp.length) ∧ Below w.heap.size w w' := by
  have c0 := h.c0
  obtain ⟨p, c, rfl⟩ := h.sl
  clear h
  go_enter Tryz.func63, Tryz.ntmps63
  go_wp2
  go_ret
  exact ⟨rfl, Below.refl _ _⟩
set_option maxHeartbeats 2000000 in
theorem less_any (w : World) (X : Nat → Prop) (q gp gw : Nat) (vh : Value) (Q : Qu) (h : Qm w X q gp gw vh Q) (n : Nat) (ok : QOk n Q) (i j : Nat) (hi : i < Q.hp.length) (hj : j < Q.hp.length) :
    Calls Tryz.prog 200 #[.pointer (some ⟨q, 0, none⟩), .int .i64 i, .int .i64 j] w fun e w' => e = .returned (.bool (Q.less i j)) ∧ Below w.heap.size w w' := by
  have c0 := h.c0
  have c2 := h.c2
  obtain ⟨g, cap, rfl, hr⟩ := h.row hi
  have ri := (hr i hi).1
  have rj := (hr j hj).1
  have ai := ok.hp _ (Qu.at_mem hi)
  have aj := ok.hp _ (Qu.at_mem hj)
  obtain ⟨a, ha⟩ : ∃ a : Nat, Q.at i = a := ⟨(Q.at i).toNat, by omega⟩
  obtain ⟨b, hb⟩ : ∃ b : Nat, Q.at j = b := ⟨(Q.at j).toNat, by omega⟩
  have wa := (map_cell h.wt (k := a) (by rw [ok.wt]; omega)).1
  have wb := (map_cell h.wt (k := b) (by rw [ok.wt]; omega)).1
  have HL : Hid (Q.less i j = if Q.wt.getD a 0 = Q.wt.getD b 0 then decide (a < b) else decide (Q.wt.getD b 0 < Q.wt.getD a 0)) := by
    unfold Hid Qu.less Qu.w
    rw [ha, hb]
    simp only [Int.toNat_natCast, Int.ofNat_lt]
  rw [ha] at ri ai
  rw [hb] at rj aj
  generalize Q.less i j = r at *
  generalize Q.wt.getD a 0 = xa at *
  generalize Q.wt.getD b 0 = xb at *
  have e1 : (0 : Int) ≤ (i : Int) := by omega
  have e2 : (i : Int) < (Q.hp.length : Int) := by omega
  have e3 : (0 : Int) ≤ (j : Int) := by omega
  have e4 : (j : Int) < (Q.hp.length : Int) := by omega
  have e5 : (a : Int) < (Q.wt.length : Int) := by rw [ok.wt]; exact ai.2
  have e6 : (b : Int) < (Q.wt.length : Int) := by rw [ok.wt]; exact aj.2
  have e7 : (0 : Int) ≤ (a : Int) := by omega
  have e8 : (0 : Int) ≤ (b : Int) := by omega
  clear h hr ok hi hj ai aj ha hb
  by_cases hx : xa = xb
  · have hl := HL.out
    rw [if_pos hx] at hl
    subst hl hx
    clear HL
    go_enter Tryz.func200, Tryz.ntmps200
    go_wp2
    go_region_held3 (fun w' => w'.cell? ⟨q, 0, none⟩ = some (.slice (some ⟨g, 0, none⟩) Q.hp.length cap) ∧ w'.cell? ⟨q, 2, none⟩ = some (.slice (some ⟨gw, 0, none⟩) Q.wt.length Q.wt.length) ∧ w'.cell? ⟨g, i, none⟩ = some (.int .i64 a) ∧ w'.cell? ⟨g, j, none⟩ = some (.int .i64 b) ∧ w'.cell? ⟨gw, a, none⟩ = some (.int .i64 xa) ∧ w'.cell? ⟨gw, b, none⟩ = some (.int .i64 xa)) (first | exact ⟨c0, c2, ri, rj, wa, wb⟩ | go_keep) (fail)
    go_wp2
    go_region_held3 (fun w' => w'.cell? ⟨q, 0, none⟩ = some (.slice (some ⟨g, 0, none⟩) Q.hp.length cap) ∧ w'.cell? ⟨q, 2, none⟩ = some (.slice (some ⟨gw, 0, none⟩) Q.wt.length Q.wt.length) ∧ w'.cell? ⟨g, i, none⟩ = some (.int .i64 a) ∧ w'.cell? ⟨g, j, none⟩ = some (.int .i64 b) ∧ w'.cell? ⟨gw, a, none⟩ = some (.int .i64 xa) ∧ w'.cell? ⟨gw, b, none⟩ = some (.int .i64 xa)) (first | exact ⟨c0, c2, ri, rj, wa, wb⟩ | go_keep) (fail)
    go_wp2
    go_ret
    exact ⟨rfl, (Below.refl _ _).drew.drew⟩
  · have hl := HL.out
    rw [if_neg hx] at hl
    subst hl
    have hxb : (xa != xb) = true := by simp [hx]
    clear HL hx
    go_enter Tryz.func200, Tryz.ntmps200
    go_wp2
    go_region_held3 (fun w' => w'.cell? ⟨q, 0, none⟩ = some (.slice (some ⟨g, 0, none⟩) Q.hp.length cap) ∧ w'.cell? ⟨q, 2, none⟩ = some (.slice (some ⟨gw, 0, none⟩) Q.wt.length Q.wt.length) ∧ w'.cell? ⟨g, i, none⟩ = some (.int .i64 a) ∧ w'.cell? ⟨g, j, none⟩ = some (.int .i64 b) ∧ w'.cell? ⟨gw, a, none⟩ = some (.int .i64 xa) ∧ w'.cell? ⟨gw, b, none⟩ = some (.int .i64 xb)) (first | exact ⟨c0, c2, ri, rj, wa, wb⟩ | go_keep) (fail)
    go_wp2
    go_region_held3 (fun w' => w'.cell? ⟨q, 0, none⟩ = some (.slice (some ⟨g, 0, none⟩) Q.hp.length cap) ∧ w'.cell? ⟨q, 2, none⟩ = some (.slice (some ⟨gw, 0, none⟩) Q.wt.length Q.wt.length) ∧ w'.cell? ⟨g, i, none⟩ = some (.int .i64 a) ∧ w'.cell? ⟨g, j, none⟩ = some (.int .i64 b) ∧ w'.cell? ⟨gw, a, none⟩ = some (.int .i64 xa) ∧ w'.cell? ⟨gw, b, none⟩ = some (.int .i64 xb)) (first | exact ⟨c0, c2, ri, rj, wa, wb⟩ | go_keep) (fail)
    go_wp2
    go_region_held3 (fun w' => w'.cell? ⟨q, 0, none⟩ = some (.slice (some ⟨g, 0, none⟩) Q.hp.length cap) ∧ w'.cell? ⟨q, 2, none⟩ = some (.slice (some ⟨gw, 0, none⟩) Q.wt.length Q.wt.length) ∧ w'.cell? ⟨g, i, none⟩ = some (.int .i64 a) ∧ w'.cell? ⟨g, j, none⟩ = some (.int .i64 b) ∧ w'.cell? ⟨gw, a, none⟩ = some (.int .i64 xa) ∧ w'.cell? ⟨gw, b, none⟩ = some (.int .i64 xb)) (first | exact ⟨c0, c2, ri, rj, wa, wb⟩ | go_keep) (fail)
    go_wp2
    go_ret
    exact ⟨rfl, (Below.refl _ _).drew.drew.drew⟩
end Go.Proofs.YtkinmangilbeeaaGreatDoor.Sr

namespace Go.Proofs.YtkinmangilbeeaaGreatDoor.Pf
open Go.RowKit Go.Maps Go.WideMaps
set_option maxRecDepth 100000

section
variable {w : World} {X : Nat → Prop} {R S W nS nW : Nat} {vc vs : Value} {wk : Int} {cg cc : Nat → Nat} {wv : Int → Value} {B : Bd}
/-- Who watches a number has changed, and nothing else. -/
theorem Mb.setWatch {w3 : World} {X' : Nat → Prop} {nW' : Nat} {n : Int} {v' : Value} {l' : List (Nat × Int)} (h : Mb w X R S W nS nW vc vs wk cg cc wv B)
    (hb : ∀ g, g < w.heap.size → g ≠ W → (wv n).ownBlock ≠ some g → w3.heap[g]? = w.heap[g]?) (hx : ∀ g, X g → X' g)
    (hW : Wm w3 W nW' (upd wv n v')) (hrow : w3.ownsRow 0 73 2 v' l'.length (flatW l')) (hxl : ∀ g, v'.ownBlock = some g → X' g) (hnew : ∀ g, v'.ownBlock = some g → (wv n).ownBlock = some g ∨ w.heap.size ≤ g) (hxb : ∀ g, X' g → g < w3.heap.size) :
    Mb w3 X' R S W nS nW' vc vs wk cg cc (upd wv n v') { B with wt := upd B.wt n l' } := by
  have hso := h.so
  have hwm := h.wm
  obtain ⟨D, h1, _⟩ := hso
  obtain ⟨D2, h2, _⟩ := hwm
  have row : ∀ {e : TypeId} {sz : Nat} {v : Value} {m : Nat} {xs : List Value}, e ≠ 73 → w.ownsRow 0 e sz v m xs → w3.ownsRow 0 e sz v m xs := fun he hr => row_same hr fun g hg => hb g (hr.lt g hg).2 (fun e' => row_nmap hr h2 (e' ▸ hg)) (rows_ne hr (h.wl n) he hg)
  refine ⟨(hb R (Array.getElem?_eq_some_iff.1 h.bd).1 (fun e => h.neW e.symm) (row_ne (h.wl n) h.bd (by decide))).trans h.bd, h.so.same (hb S h1.lt h.sw (row_nmap (h.wl n) h1)), hW, row (by decide) h.st, row (by decide) h.rw, fun i hi => row (by decide) (h.cl i hi), fun x => ?_, h.cn, fun x y g hg1 hg2 => ?_, h.sw, hx _ h.xr, hx _ h.xs, hx _ h.xw, fun g e => hx g (h.xt g e), fun g e => hx g (h.xc g e), fun i hi => hx _ (h.xi i hi), fun x g e => ?_, hxb⟩
  · simp only
    by_cases e : x = n
    · subst e
      rw [upd_same, upd_same]
      exact hrow
    · rw [upd_ne _ _ e, upd_ne _ _ e]
      exact row_same (h.wl x) fun g hg => hb g ((h.wl x).lt g hg).2 (fun e' => row_nmap (h.wl x) h2 (e' ▸ hg)) (fun e' => e (h.wn x n g hg e'))
  · by_cases e1 : x = n
    · by_cases e2 : y = n
      · rw [e1, e2]
      · rw [e1, upd_same] at hg1
        rw [upd_ne _ _ e2] at hg2
        rcases hnew g hg1 with e3 | e3
        · exact absurd (h.wn y n g hg2 e3) e2
        · have := ((h.wl y).lt g hg2).2; omega
    · rw [upd_ne _ _ e1] at hg1
      by_cases e2 : y = n
      · rw [e2, upd_same] at hg2
        rcases hnew g hg2 with e3 | e3
        · exact absurd (h.wn x n g hg1 e3) e1
        · have := ((h.wl x).lt g hg1).2; omega
      · rw [upd_ne _ _ e2] at hg2
        exact h.wn x y g hg1 hg2
  · by_cases e1 : x = n
    · rw [e1, upd_same] at e
      exact hxl g e
    · rw [upd_ne _ _ e1] at e
      exact hx g (h.xl x g e)
end
theorem two_news (x y : Int) (w : World) : ∀ j u, ([.int .i64 x, .int .i64 y] : List Value)[j]? = some u → (w.drew.alloc (.cells #[.int .i64 x, .int .i64 y] 73)).cell? ((⟨w.heap.size, 0, none⟩ : Addr).add j) = some u := fun j u hj => by
  match j, hj with
  | 0, hj => simp at hj; subst hj; simp [go_sem, Addr.add]
  | 1, hj => simp at hj; subst hj; simp [go_sem, Addr.add]
theorem two_cell (x y : Int) : ∀ u ∈ ([.int .i64 x, .int .i64 y] : List Value), u.oneCell' = true := fun u hu => by
  simp at hu; rcases hu with rfl | rfl <;> rfl

set_option maxHeartbeats 4000000 in
theorem watch_any (w : World) (X : Nat → Prop) (R S W nS nW : Nat) (vc vs : Value) (wk : Int) (cg cc : Nat → Nat) (wv : Int → Value) (B : Bd) (h : Mb w X R S W nS nW vc vs wk cg cc wv B) (n : Int) (i : Nat) (o : Int) (hn : Small n) (hl : (B.wt n).length ≤ 1000000) (hnW : nW ≤ 1000000000000000000) :
    Calls Tryz.prog 42 #[.pointer (some ⟨R, 0, none⟩), .int .i64 n, .agg #[.int .i64 i, .int .i64 o]] w fun e w' => e = .returned (.tuple #[]) ∧ ∃ X' v', Mb w' X' R S W nS (nW + 1) vc vs wk cg cc (upd wv n v') { B with wt := upd B.wt n (B.wt n ++ [(i, o)]) } ∧ Fr X w w' X' := by
  obtain ⟨i0, hi, hz0, hz1, hz2⟩ := info_parts info120
  have hal : Below w.heap.size w (w.alloc (.cells #[.int .i64 i, .int .i64 o] 73)) := bal (Below.refl _ _) _
  have h0 := h.later hal
  have e0 : (w.alloc (.cells #[.int .i64 i, .int .i64 o] 73)).cell? ⟨w.heap.size, 0, none⟩ = some (.int .i64 i) := by simp [go_sem]
  have e1 : (w.alloc (.cells #[.int .i64 i, .int .i64 o] 73)).cell? ⟨w.heap.size, 1, none⟩ = some (.int .i64 o) := by simp [go_sem]
  have HFA : Hid (Fr X w (w.alloc (.cells #[.int .i64 i, .int .i64 o] 73)) X) := Fr.quiet hal
  clear h hal
  go_enter Tryz.func42, Tryz.ntmps42
  go_wp2_with fail
  generalize hw0 : w.alloc (.cells #[.int .i64 i, .int .i64 o] 73) = w0 at *
  clear hw0
  have c6 := h0.c6
  have hrow := h0.wl n
  have hsl := row_sl hrow
  have hkey := key3 hn
  have H := hide h0
  obtain ⟨D, hD, hDs⟩ := h0.wm
  have HD := hide (And.intro hD hDs)
  have HRW := hide hrow
  have HIN := hide (And.intro hi (And.intro hz0 (And.intro hz1 hz2)))
  generalize hvn : wv n = vn at *
  have HVN := hide hvn
  clear hvn
  have hR1 := World.block_lt_of_cell? _ _ c6
  simp only at hR1
  have hR2 := World.new_ne w0 ⟨R, 6, none⟩ c6
  simp only at hR2
  have hS1 := World.block_lt_of_cell? _ _ e0
  simp only at hS1
  have hS2 := World.new_ne w0 ⟨w.heap.size, 0, none⟩ e0
  simp only at hS2
  have hlk2 : (Instr.lookup 63 (.map (some W)) (.int .i64 n) false).run Tryz.prog w0.drew = .ok vn w0.drew := by
    have := look104 (w := w0.drew) (wv := wv) ⟨D, hD.drew, hDs⟩ hn (by rw [HVN.out]; exact hsl)
    rw [HVN.out] at this
    exact this
  have hlk3 : (Instr.lookup 63 (.map (some W)) (.int .i64 n) false).run Tryz.prog (w0.alloc (.cells #[.int .i64 i, .int .i64 o] 73)).drew = .ok vn (w0.alloc (.cells #[.int .i64 i, .int .i64 o] 73)).drew := by
    have := look104 (w := (w0.alloc (.cells #[.int .i64 i, .int .i64 o] 73)).drew) (wv := wv) ⟨D, (hD.alloc _).drew, hDs⟩ hn (by rw [HVN.out]; exact hsl)
    rw [HVN.out] at this
    exact this
  have HNE : Hid (Value.ownBlock vn ≠ some R) := row_ne hrow h0.bd (by decide)
  have HNW : Hid (Value.ownBlock vn ≠ some W) := row_nmap hrow hD
  have HUP : Hid (∀ (u : World) (v : Value), u.heap[W]? = w0.heap[W]? → IsSl v → ∃ u', (Instr.mapUpdate 63 (.map (some W)) (.int .i64 n) v).run Tryz.prog u = .ok () u' ∧ Wm u' W (nW + 1) (upd wv n v) ∧ u.grownBy u' (some W)) := fun u v hu hv => by
    obtain ⟨u', h1, h2, h3⟩ := (map_same (w1 := u) hD hu).update law3 Tryz.underlying63 (show nW < maxLen by unfold maxLen; omega) hkey (slR_of hv)
    exact ⟨u', h1, Wm.put hD.isMap hDs h2, h3⟩
  have hDl := hD.lt
  clear hi hz0 hz1 hz2 hrow hD hDs h0 hkey
  go_region_law (first
    | (refine step_append_lies _ rfl (.tmp 16) (.tmp 18) 89 rfl 0 73 i0 (.agg #[.int .i64 0, .int .i64 0]) 2 16 Tryz.underlying89 HIN.out.1 HIN.out.2.1 HIN.out.2.2.1 HIN.out.2.2.2 rfl (by decide) _ (B.wt n).length (flatW (B.wt n)) (by simp [Act.eval]) (HRW.out.alloc _) ⟨w0.heap.size, 0, none⟩ 1 1 [.int .i64 i, .int .i64 o] (by simp [Act.eval]) rfl (two_news i o w0) (two_cell i o) (by decide) (by unfold maxLen; omega) (by omega) (by simp) (w0.heap.size + 1) (by simp) ?_
       intro g cap w3 hown3 hg3 hat3 hlt3
       have g6 := hg3.cell (a := ⟨R, 6, none⟩) (past1 c6 _) (fun e => HNE.out e.symm)
       have hb3 : ∀ k, k < w0.heap.size → Value.ownBlock vn ≠ some k → w3.heap[k]? = w0.heap[k]? := fun k hk hne => (hg3.block k (by simp; omega) (fun e => hne e.symm)).trans ((bal (Below.refl _ w0) (.cells #[.int .i64 i, .int .i64 o] 73)).block k hk)
       obtain ⟨w4, hrun4, hwm4, hg4⟩ := HUP.out w3 (.slice (some ⟨g, 0, none⟩) ((B.wt n).length + 1) cap) (hb3 W hDl HNW.out) (.inr ⟨_, _, _, rfl⟩)))
  all_goals
    have hs3 := hg3.size
    simp at hs3
    have hs4 := hg4.size
    have hrow4 : w4.ownsRow 0 73 2 (.slice (some ⟨g, 0, none⟩) ((B.wt n).length + 1) cap) (B.wt n ++ [(i, o)]).length (flatW (B.wt n ++ [(i, o)])) := by
      rw [flatW_app, List.length_append, List.length_singleton]
      refine row_same hown3 fun k hk => hg4.block k (hown3.lt k hk).2 fun e => ?_
      injection e with e
      subst e
      simp only [Value.ownBlock, Option.some.injEq] at hk
      subst hk
      rcases hat3 with e | e
      · exact HNW.out e
      · omega
    have hfar : ∀ k, k < w0.heap.size → k ≠ W → Value.ownBlock vn ≠ some k → w4.heap[k]? = w0.heap[k]? := fun k hk h1 h2 => (hg4.block k (by omega) (by simpa using h1)).trans (hb3 k hk h2)
    have HM : Hid (Mb w4 (fun k => X k ∨ k = g) R S W nS (nW + 1) vc vs wk cg cc (upd wv n (.slice (some ⟨g, 0, none⟩) ((B.wt n).length + 1) cap)) { B with wt := upd B.wt n (B.wt n ++ [(i, o)]) }) :=
      H.out.setWatch (by rw [HVN.out]; exact hfar) (fun k hk => .inl hk) hwm4 hrow4 (fun k hk => by simp [Value.ownBlock] at hk; exact .inr hk.symm) (fun k hk => by
        simp only [Value.ownBlock, Option.some.injEq] at hk
        subst hk
        rw [HVN.out]
        rcases hat3 with e | e
        · exact .inl e
        · exact .inr (by omega)) (fun k hk => by
        rcases hk with hk | rfl
        · have := H.out.xb k hk; omega
        · omega)
    have HF : Hid (Fr X w0 w4 (fun k => X k ∨ k = g)) := by
      refine ⟨hg4.os.trans hg3.os, hg4.tape.trans hg3.tape, hg4.output.trans hg3.output, by omega, fun k hk hx => hfar k hk (fun e => hx (e ▸ H.out.xw)) (fun e => hx (H.out.xl n k (by rw [HVN.out]; exact e))), fun k hk => .inl hk, fun k hk hx => ?_⟩
      rcases hx with hx | rfl
      · exact hx
      · rcases hat3 with e | e
        · exact H.out.xl n _ (by rw [HVN.out]; exact e)
        · omega
    have HFF := hide (HFA.out.trans HF.out)
    clear hown3 hg3 hat3 hlt3 g6 hb3 hrun4 hwm4 hg4 hrow4 hfar HF HFA
    go_end0
    exact ⟨rfl, _, _, HM.out, HFF.out⟩
end Go.Proofs.YtkinmangilbeeaaGreatDoor.Pf
