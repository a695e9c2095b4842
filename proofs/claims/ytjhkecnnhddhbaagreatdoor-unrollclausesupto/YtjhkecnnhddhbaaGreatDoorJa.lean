/- A queue in memory: Len, Less, Swap. -/
import Derived.Test.YtjhkecnnhddhbaaGreatDoorPbM
namespace Go.Proofs.YtjhkecnnhddhbaaGreatDoor.Sr
open Go.RowKit Go.Maps Go.Proofs.YtjhkecnnhddhbaaGreatDoor.Pf
set_option maxRecDepth 100000
structure Qu where
 hp : List Int
 pl : List Int
 wt : List Int
 gain : Int
def Qu.w (Q : Qu) (v : Int) : Int := Q.wt.getD v.toNat 0
def Qu.at (Q : Qu) (i : Nat) : Int := Q.hp.getD i 0
def Qu.less (Q : Qu) (i j : Nat) : Bool := if Q.w (Q.at i) = Q.w (Q.at j) then decide (Q.at i < Q.at j) else decide (Q.w (Q.at j) < Q.w (Q.at i))
def Qu.swap (Q : Qu) (i j : Nat) : Qu := { Q with hp := (Q.hp.set i (Q.at j)).set j (Q.at i), pl := (Q.pl.set (Q.at i).toNat j).set (Q.at j).toNat i }
structure QOk (n : Nat) (Q : Qu) : Prop where
 pl : Q.pl.length = n
 wt : Q.wt.length = n
 hp : ∀ v ∈ Q.hp, 0 ≤ v ∧ v < n
 len : Q.hp.length ≤ 1000000
 n : n ≤ 1000000
theorem Qu.at_mem {Q : Qu} {i : Nat} (h : i < Q.hp.length) : Q.at i ∈ Q.hp := by
 unfold Qu.at
 rw [List.getD_eq_getElem?_getD, List.getElem?_eq_getElem h]
 exact List.getElem_mem h
theorem QOk.swap {n : Nat} {Q : Qu} (h : QOk n Q) {i j : Nat} (hi : i < Q.hp.length) (hj : j < Q.hp.length) : QOk n (Q.swap i j) := by
 refine ⟨by simp [Qu.swap, h.pl], h.wt, fun v hv => ?_, by simp [Qu.swap, h.len], h.n⟩
 rcases List.mem_or_eq_of_mem_set hv with hv | rfl
 · rcases List.mem_or_eq_of_mem_set hv with hv | rfl
   · exact h.hp v hv
   · exact h.hp _ (Qu.at_mem hj)
 · exact h.hp _ (Qu.at_mem hi)
structure Qm (w : World) (X : Nat → Prop) (q gp gw : Nat) (vh : Value) (Q : Qu) : Prop where
 bk : w.heap[q]? = some (.cells #[vh, .slice (some ⟨gp, 0, none⟩) Q.pl.length Q.pl.length, .slice (some ⟨gw, 0, none⟩) Q.wt.length Q.wt.length, .int .i64 Q.gain] 217 (0, 0))
 hp : w.ownsRow 0 3 1 vh Q.hp.length (Q.hp.map (Value.int .i64))
 pl : w.heap[gp]? = some (.cells (Q.pl.map (Value.int .i64)).toArray 3 (0, 0))
 wt : w.heap[gw]? = some (.cells (Q.wt.map (Value.int .i64)).toArray 3 (0, 0))
 ne : gp ≠ gw
 np : vh.ownBlock ≠ some gp
 nw : vh.ownBlock ≠ some gw
 xq : X q
 xp : X gp
 xw : X gw
 xh : ∀ g, vh.ownBlock = some g → X g
 xb : ∀ g, X g → g < w.heap.size
section
variable {w : World} {X : Nat → Prop} {q gp gw : Nat} {vh : Value} {Q : Qu}
theorem Qm.c0 (h : Qm w X q gp gw vh Q) : w.cell? ⟨q, 0, none⟩ = some vh := by rw [Lib.cell_of_heap h.bk]; rfl
theorem Qm.c1 (h : Qm w X q gp gw vh Q) : w.cell? ⟨q, 1, none⟩ = some (.slice (some ⟨gp, 0, none⟩) Q.pl.length Q.pl.length) := by rw [Lib.cell_of_heap h.bk]; rfl
theorem Qm.c2 (h : Qm w X q gp gw vh Q) : w.cell? ⟨q, 2, none⟩ = some (.slice (some ⟨gw, 0, none⟩) Q.wt.length Q.wt.length) := by rw [Lib.cell_of_heap h.bk]; rfl
theorem Qm.fz (h : Qm w X q gp gw vh Q) (k : Nat) : w.frozen? ⟨q, k, none⟩ = false := Lib.frozen_of_heap h.bk k
theorem Qm.sl (h : Qm w X q gp gw vh Q) : ∃ p c, vh = .slice p Q.hp.length c := by
 rcases h.hp.2 with ⟨rfl, h0⟩ | ⟨g, cap, cur, rfl, _⟩
 · exact ⟨none, 0, by rw [h0]⟩
 · exact ⟨_, _, rfl⟩
theorem Qm.row (h : Qm w X q gp gw vh Q) {i : Nat} (hi : i < Q.hp.length) : ∃ g cap, vh = .slice (some ⟨g, 0, none⟩) Q.hp.length cap ∧ ∀ k, k < Q.hp.length → w.cell? ⟨g, k, none⟩ = some (.int .i64 (Q.at k)) ∧ w.frozen? ⟨g, k, none⟩ = false := by
 rcases h.hp.2 with ⟨_, h0⟩ | ⟨g, cap, cur, e, _, hg, hn, hm, hs, ht⟩
 · omega
 · refine ⟨g, cap, e, fun k hk => ⟨?_, Lib.frozen_of_heap hg k⟩⟩
   rw [Lib.cell_of_heap hg]
   have h1 : cur.toList[k]? = (Q.hp.map (Value.int .i64))[k]? := by rw [← ht, List.getElem?_take, if_pos (by omega)]
   rw [← Array.getElem?_toList, h1, List.getElem?_map, List.getElem?_eq_getElem hk]
   unfold Qu.at
   rw [List.getD_eq_getElem?_getD, List.getElem?_eq_getElem hk]
   rfl
theorem map_cell {w : World} {g : Nat} {l : List Int} (h : w.heap[g]? = some (.cells (l.map (Value.int .i64)).toArray 3 (0, 0))) {k : Nat} (hk : k < l.length) : w.cell? ⟨g, k, none⟩ = some (.int .i64 (l.getD k 0)) ∧ w.frozen? ⟨g, k, none⟩ = false := by
 refine ⟨?_, Lib.frozen_of_heap h k⟩
 rw [Lib.cell_of_heap h, List.getElem?_toArray, List.getElem?_map, List.getElem?_eq_getElem hk, List.getD_eq_getElem?_getD, List.getElem?_eq_getElem hk]
 rfl
theorem Qm.far (h : Qm w X q gp gw vh Q) {w' : World} (hs : w.heap.size ≤ w'.heap.size) (hb : ∀ g, X g → w'.heap[g]? = w.heap[g]?) : Qm w' X q gp gw vh Q :=
 ⟨(hb q h.xq).trans h.bk, row_same h.hp fun g hg => hb g (h.xh g hg), (hb gp h.xp).trans h.pl, (hb gw h.xw).trans h.wt, h.ne, h.np, h.nw, h.xq, h.xp, h.xw, h.xh, fun g hg => Nat.lt_of_lt_of_le (h.xb g hg) hs⟩
theorem Qm.later (h : Qm w X q gp gw vh Q) {w' : World} (hb : Below w.heap.size w w') : Qm w' X q gp gw vh Q := h.far hb.size fun g hg => hb.block g (h.xb g hg)
end
set_option maxHeartbeats 1000000 in
theorem len_any (w : World) (X : Nat → Prop) (q gp gw : Nat) (vh : Value) (Q : Qu) (h : Qm w X q gp gw vh Q) :
   Calls Tryz.prog 201 #[.pointer (some ⟨q, 0, none⟩)] w fun e w' => e = .returned (.int .i64 Q.hp.length) ∧ Below w.heap.size w w' := by
 have c0 := h.c0
 obtain ⟨p, c, rfl⟩ := h.sl
 clear h
 go_enter Tryz.func201, Tryz.ntmps201
 go_wp2
 go_ret
 exact ⟨rfl, Below.refl _ _⟩
set_option maxHeartbeats 2000000 in
theorem less_any (w : World) (X : Nat → Prop) (q gp gw : Nat) (vh : Value) (Q : Qu) (h : Qm w X q gp gw vh Q) (n : Nat) (ok : QOk n Q) (i j : Nat) (hi : i < Q.hp.length) (hj : j < Q.hp.length) :
   Calls Tryz.prog 351 #[.pointer (some ⟨q, 0, none⟩), .int .i64 i, .int .i64 j] w fun e w' => e = .returned (.bool (Q.less i j)) ∧ Below w.heap.size w w' := by
 have c0 := h.c0
 have c2 := h.c2
 obtain ⟨g, cap, rfl, hr⟩ := h.row hi
 have ri := (hr i hi).1
 have rj := (hr j hj).1
 have ai := ok.hp _ (Qu.at_mem hi)
 have aj := ok.hp _ (Qu.at_mem hj)
 obtain ⟨a, ha⟩ : ∃ a : Nat, Q.at i = a := ⟨(Q.at i).toNat, by omega⟩
 obtain ⟨b, hb⟩ : ∃ b : Nat, Q.at j = b := ⟨(Q.at j).toNat, by omega⟩
 have wa := (map_cell h.wt (k := a) (by rw [ok.wt]; omega)).1
 have wb := (map_cell h.wt (k := b) (by rw [ok.wt]; omega)).1
 have HL : Hid (Q.less i j = if Q.wt.getD a 0 = Q.wt.getD b 0 then decide (a < b) else decide (Q.wt.getD b 0 < Q.wt.getD a 0)) := by
   unfold Hid Qu.less Qu.w
   rw [ha, hb]
   simp only [Int.toNat_natCast, Int.ofNat_lt]
 rw [ha] at ri ai
 rw [hb] at rj aj
 generalize Q.less i j = r at *
 generalize Q.wt.getD a 0 = xa at *
 generalize Q.wt.getD b 0 = xb at *
 have e1 : (0 : Int) ≤ (i : Int) := by omega
 have e2 : (i : Int) < (Q.hp.length : Int) := by omega
 have e3 : (0 : Int) ≤ (j : Int) := by omega
 have e4 : (j : Int) < (Q.hp.length : Int) := by omega
 have e5 : (a : Int) < (Q.wt.length : Int) := by rw [ok.wt]; exact ai.2
 have e6 : (b : Int) < (Q.wt.length : Int) := by rw [ok.wt]; exact aj.2
 have e7 : (0 : Int) ≤ (a : Int) := by omega
 have e8 : (0 : Int) ≤ (b : Int) := by omega
 clear h hr ok hi hj ai aj ha hb
 by_cases hx : xa = xb
 · have hl := HL.out
   rw [if_pos hx] at hl
   subst hl hx
   clear HL
   go_enter Tryz.func351, Tryz.ntmps351
   go_wp2
   go_region_held3 (fun w' => w'.cell? ⟨q, 0, none⟩ = some (.slice (some ⟨g, 0, none⟩) Q.hp.length cap) ∧ w'.cell? ⟨q, 2, none⟩ = some (.slice (some ⟨gw, 0, none⟩) Q.wt.length Q.wt.length) ∧ w'.cell? ⟨g, i, none⟩ = some (.int .i64 a) ∧ w'.cell? ⟨g, j, none⟩ = some (.int .i64 b) ∧ w'.cell? ⟨gw, a, none⟩ = some (.int .i64 xa) ∧ w'.cell? ⟨gw, b, none⟩ = some (.int .i64 xa)) (first | exact ⟨c0, c2, ri, rj, wa, wb⟩ | go_keep) (fail)
   go_wp2
   go_region_held3 (fun w' => w'.cell? ⟨q, 0, none⟩ = some (.slice (some ⟨g, 0, none⟩) Q.hp.length cap) ∧ w'.cell? ⟨q, 2, none⟩ = some (.slice (some ⟨gw, 0, none⟩) Q.wt.length Q.wt.length) ∧ w'.cell? ⟨g, i, none⟩ = some (.int .i64 a) ∧ w'.cell? ⟨g, j, none⟩ = some (.int .i64 b) ∧ w'.cell? ⟨gw, a, none⟩ = some (.int .i64 xa) ∧ w'.cell? ⟨gw, b, none⟩ = some (.int .i64 xa)) (first | exact ⟨c0, c2, ri, rj, wa, wb⟩ | go_keep) (fail)
   go_wp2
   go_ret
   exact ⟨rfl, (Below.refl _ _).drew.drew⟩
 · have hl := HL.out
   rw [if_neg hx] at hl
   subst hl
   have hxb : (xa != xb) = true := by simp [hx]
   clear HL hx
   go_enter Tryz.func351, Tryz.ntmps351
   go_wp2
   go_region_held3 (fun w' => w'.cell? ⟨q, 0, none⟩ = some (.slice (some ⟨g, 0, none⟩) Q.hp.length cap) ∧ w'.cell? ⟨q, 2, none⟩ = some (.slice (some ⟨gw, 0, none⟩) Q.wt.length Q.wt.length) ∧ w'.cell? ⟨g, i, none⟩ = some (.int .i64 a) ∧ w'.cell? ⟨g, j, none⟩ = some (.int .i64 b) ∧ w'.cell? ⟨gw, a, none⟩ = some (.int .i64 xa) ∧ w'.cell? ⟨gw, b, none⟩ = some (.int .i64 xb)) (first | exact ⟨c0, c2, ri, rj, wa, wb⟩ | go_keep) (fail)
   go_wp2
   go_region_held3 (fun w' => w'.cell? ⟨q, 0, none⟩ = some (.slice (some ⟨g, 0, none⟩) Q.hp.length cap) ∧ w'.cell? ⟨q, 2, none⟩ = some (.slice (some ⟨gw, 0, none⟩) Q.wt.length Q.wt.length) ∧ w'.cell? ⟨g, i, none⟩ = some (.int .i64 a) ∧ w'.cell? ⟨g, j, none⟩ = some (.int .i64 b) ∧ w'.cell? ⟨gw, a, none⟩ = some (.int .i64 xa) ∧ w'.cell? ⟨gw, b, none⟩ = some (.int .i64 xb)) (first | exact ⟨c0, c2, ri, rj, wa, wb⟩ | go_keep) (fail)
   go_wp2
   go_region_held3 (fun w' => w'.cell? ⟨q, 0, none⟩ = some (.slice (some ⟨g, 0, none⟩) Q.hp.length cap) ∧ w'.cell? ⟨q, 2, none⟩ = some (.slice (some ⟨gw, 0, none⟩) Q.wt.length Q.wt.length) ∧ w'.cell? ⟨g, i, none⟩ = some (.int .i64 a) ∧ w'.cell? ⟨g, j, none⟩ = some (.int .i64 b) ∧ w'.cell? ⟨gw, a, none⟩ = some (.int .i64 xa) ∧ w'.cell? ⟨gw, b, none⟩ = some (.int .i64 xb)) (first | exact ⟨c0, c2, ri, rj, wa, wb⟩ | go_keep) (fail)
   go_wp2
   go_ret
   exact ⟨rfl, (Below.refl _ _).drew.drew.drew⟩
end Go.Proofs.YtjhkecnnhddhbaaGreatDoor.Sr
