import Derived.Test.YtabnimgpednhjabGreatDa
import Derived.Test.YtabnimgpednhjabGreatGjM
import Derived.Test.YtabnimgpednhjabGreatGdM
import Derived.Test.YtabnimgpednhjabGreatGhM
import Derived.Test.YtabnimgpednhjabGreatGe
namespace Go.Proofs.YtabnimgpednhjabGreat.Gg
open Go.RowKit Go.Maps Go.WideMaps
set_option maxRecDepth 100000
set_option maxHeartbeats 4000000 in
theorem makerAnd2_lt (ins : Int) (ps : List (Int × Int)) (hl : ps.length ≤ 1000000) (h0 : 0 ≤ ins) (h1 : ins ≤ 1000) (x y a b : Int) (hxy : x < y) (hx : 0 ≤ x) (hy : y ≤ 10000000) (hab : (a = x ∧ b = y) ∨ (a = y ∧ b = x)) (hd : dupN ps ps.length = false)
   (w : World) (base M B : Nat) (v : Value) (hbs : base ≤ w.heap.size) (hbm : Bm w base M B v ins ps) :
   Calls Tryz.prog 120 #[.pointer (some ⟨M, 0, none⟩), .int .i64 a, .int .i64 b] w fun e w' => ∃ v', e = .returned (.tuple #[.int .i64 (makLit ins ps x y), .bool (makOk ps x y)]) ∧
     Bm w' base M B v' ins (makPs ps x y) ∧ Gon base M B w v w' v' := by
 obtain ⟨D, hown, hmap⟩ := hbm.map
 have HCL := hide (add2_any ins ps hl h0 h1 x y ⟨by omega, by omega⟩ ⟨by omega, by omega⟩ hbm.wf hd w base M B v D hbs hbm.mem hown hmap)
 have HMK := hide hbm
 have HT := hide (fun w => turn_any y (by omega) hy w)
 clear hbm hown hmap hd
 by_cases hz : x = 0
 · have HE := hide (mak_no (ins := ins) (ps := ps) (Or.inl hz : x = 0 ∨ x = turn y))
   have hz' : (x == 0) = true := by simpa using hz
   clear HCL hz
   rcases hab with ⟨rfl, rfl⟩ | ⟨rfl, rfl⟩
   all_goals
     go_enter Tryz.func120, Tryz.ntmps120
     go_wp2
     go_ret2
     exact ⟨v, by rw [HE.out.1, HE.out.2.1]; rfl, by rw [HE.out.2.2]; exact HMK.out, Gon.refl⟩
 have hz' : (x == 0) = false := by simpa using hz
 by_cases ht : x = turn y
 · have HE := hide (mak_no (ins := ins) (ps := ps) (Or.inr ht : x = 0 ∨ x = turn y))
   have ht' : (x == turn y) = true := by simpa using ht
   clear HCL hz ht
   generalize turn y = ty at *
   rcases hab with ⟨rfl, rfl⟩ | ⟨rfl, rfl⟩
   all_goals
     go_enter Tryz.func120, Tryz.ntmps120
     go_wp2_with (go_at_call 119; refine (HT.out _).mono ?_; rintro e w' ⟨rfl, rfl⟩)
     go_ret2
     exact ⟨v, by rw [HE.out.1, HE.out.2.1]; rfl, by rw [HE.out.2.2]; exact HMK.out, Gon.refl⟩
 have ht' : (x == turn y) = false := by simpa using ht
 have hno : ¬ (x = 0 ∨ x = turn y) := fun h => h.elim hz ht
 have hne : (x == y) = false := by simp; omega
 by_cases ho : x = 1
 · have HE := hide (mak_one (ins := ins) (ps := ps) hno (Or.inl ho : x = 1 ∨ x = y))
   have ho' : (x == 1) = true := by simpa using ho
   clear HCL hz ht ho hno
   generalize turn y = ty at *
   rcases hab with ⟨rfl, rfl⟩ | ⟨rfl, rfl⟩
   all_goals
     go_enter Tryz.func120, Tryz.ntmps120
     go_wp2_with (go_at_call 119; refine (HT.out _).mono ?_; rintro e w' ⟨rfl, rfl⟩)
     go_ret2
     exact ⟨v, by rw [HE.out.1, HE.out.2.1]; rfl, by rw [HE.out.2.2]; exact HMK.out, Gon.refl⟩
 · have HE := hide (mak_add (ins := ins) (ps := ps) hno (by omega : ¬ (x = 1 ∨ x = y)))
   have ho' : (x == 1) = false := by simpa using ho
   clear hz ht ho hno
   generalize turn y = ty at *
   rcases hab with ⟨rfl, rfl⟩ | ⟨rfl, rfl⟩
   all_goals
     go_enter Tryz.func120, Tryz.ntmps120
     go_wp2_with (first | (go_at_call 119; refine (HT.out _).mono ?_; rintro e w' ⟨rfl, rfl⟩) | fail)
     refine HCL.out.mono ?_
     rintro e w1 ⟨v', rfl, hmk1, hb1⟩
     have HR := hide (And.intro hmk1 hb1)
     clear hmk1 hb1
     go_wp2
     go_ret2
     exact ⟨v', by rw [HE.out.1, HE.out.2.1]; rfl, by rw [HE.out.2.2]; exact HR.out.1, HR.out.2⟩
set_option maxHeartbeats 4000000 in
theorem makerAnd2_eq (ins : Int) (ps : List (Int × Int)) (x : Int) (hx : 0 ≤ x) (hy : x ≤ 10000000)
   (w : World) (base M B : Nat) (v : Value) (hbm : Bm w base M B v ins ps) :
   Calls Tryz.prog 120 #[.pointer (some ⟨M, 0, none⟩), .int .i64 x, .int .i64 x] w fun e w' => ∃ v', e = .returned (.tuple #[.int .i64 (makLit ins ps x x), .bool (makOk ps x x)]) ∧
     Bm w' base M B v' ins (makPs ps x x) ∧ Gon base M B w v w' v' := by
 have HMK := hide hbm
 have HT := hide (fun w => turn_any x (by omega) hy w)
 have hne := turn_ne x
 clear hbm
 by_cases hz : x = 0
 · have HE := hide (mak_no (ins := ins) (ps := ps) (Or.inl hz : x = 0 ∨ x = turn x))
   have hz' : (x == 0) = true := by simpa using hz
   clear hz hne
   go_enter Tryz.func120, Tryz.ntmps120
   go_wp2
   go_ret2
   exact ⟨v, by rw [HE.out.1, HE.out.2.1]; rfl, by rw [HE.out.2.2]; exact HMK.out, Gon.refl⟩
 have hz' : (x == 0) = false := by simpa using hz
 have ht' : (x == turn x) = false := by simpa using hne
 have hno : ¬ (x = 0 ∨ x = turn x) := fun h => h.elim hz hne
 have HE := hide (mak_one (ins := ins) (ps := ps) hno (Or.inr rfl : x = 1 ∨ x = x))
 clear hne hz hno
 generalize turn x = ty at *
 cases ho' : (x == 1)
 all_goals
   go_enter Tryz.func120, Tryz.ntmps120
   go_wp2_with (go_at_call 119; refine (HT.out _).mono ?_; rintro e w' ⟨rfl, rfl⟩)
   go_ret2
   exact ⟨v, by rw [HE.out.1, HE.out.2.1]; rfl, by rw [HE.out.2.2]; exact HMK.out, Gon.refl⟩
theorem makerAnd2_any (ins : Int) (ps : List (Int × Int)) (hl : ps.length ≤ 1000000) (h0 : 0 ≤ ins) (h1 : ins ≤ 1000) (a b : Int) (ha : 0 ≤ a) (ha2 : a ≤ 10000000) (hb : 0 ≤ b) (hb2 : b ≤ 10000000) (hd : dupN ps ps.length = false)
   (w : World) (base M B : Nat) (v : Value) (hbs : base ≤ w.heap.size) (hbm : Bm w base M B v ins ps) :
   Calls Tryz.prog 120 #[.pointer (some ⟨M, 0, none⟩), .int .i64 a, .int .i64 b] w fun e w' => ∃ v', e = .returned (.tuple #[.int .i64 (andLit ins ps a b), .bool (andOk ps a b)]) ∧
     Bm w' base M B v' ins (andPs ps a b) ∧ Gon base M B w v w' v' := by
 unfold andLit andOk andPs
 rcases Int.lt_trichotomy a b with h | h | h
 · rw [Int.min_eq_left (by omega), Int.max_eq_right (by omega)]
   exact makerAnd2_lt ins ps hl h0 h1 a b a b h ha hb2 (Or.inl ⟨rfl, rfl⟩) hd w base M B v hbs hbm
 · subst h
   rw [Int.min_eq_left (by omega), Int.max_eq_right (by omega)]
   exact makerAnd2_eq ins ps a ha ha2 w base M B v hbm
 · rw [Int.min_eq_right (by omega), Int.max_eq_left (by omega)]
   exact makerAnd2_lt ins ps hl h0 h1 b a a b h hb ha2 (Or.inr ⟨rfl, rfl⟩) hd w base M B v hbs hbm
end Go.Proofs.YtabnimgpednhjabGreat.Gg

namespace Go.Proofs.YtabnimgpednhjabGreat.Gg
open Go.RowKit Go.Maps Go.WideMaps
set_option maxRecDepth 100000
theorem info4 : (Tryz.prog.info? 4).map (fun i => (i.zero, i.size, i.bytes)) = some (some (.bool false), 1, 1) := by kernel_rfl
theorem owns_bools {w : World} {base : Nat} {v : Value} {l : List Bool} (h : w.ownsRow base 4 1 v l.length (l.map Value.bool)) : ∃ p cap, v = .slice p l.length cap ∧ BoolsAt w p l := by
 have h3 := h
 obtain ⟨h1, h2⟩ := h
 rcases h2 with ⟨rfl, h0⟩ | ⟨g, cap, cur, rfl, hg, hh, hn, hm, hs, ht⟩
 · refine ⟨none, 0, by rw [h0], fun h => by omega⟩
 · refine ⟨_, cap, rfl, fun _ => ⟨g, 0, rfl, fun i hi => ?_⟩⟩
   have := h3.cellAt i (by omega)
   rw [Nat.zero_add, this, List.getElem?_map, List.getElem?_eq_getElem hi]
   rfl
theorem bools_cells {w : World} {l : List Bool} {ad : Addr} (h : BoolsAt w (some ad) l) : ∀ j u, (l.map Value.bool)[j]? = some u → w.cell? (ad.add j) = some u := by
 intro j u hj
 obtain ⟨hjl, hju⟩ := List.getElem?_eq_some_iff.1 hj
 have hjl' : j < l.length := by simpa using hjl
 obtain ⟨b, off, h, hc⟩ := h (by omega)
 cases h
 rw [Addr.add_lit, hc j hjl', ← hju]
 simp
theorem wpList_append_bools {w : World} {ops : Array Oper} {rest : List Oper} {o : Oper} {a : Act} {Q : Exit → Act → World → Prop} (hgd : o.guard = none) (s x : Operand)
   (ho : o.op = .call { callee := .builtin .append, args := #[s, x], argTypes := #[44, 44] })
   (base : Nat) (v : Value) (u l : List Bool) (hs : a.eval s = v) (hown : w.ownsRow base 4 1 v u.length (u.map Value.bool)) (p : Option Addr) (c : Nat) (hx : a.eval x = .slice p l.length c) (hB : BoolsAt w p l) (hnil : p = none → c = 0)
   (hb : u.length + l.length ≤ 70368744177664) (hbase : base ≤ w.heap.size)
   (hK : ∀ v' w', w'.ownsRow base 4 1 v' (u ++ l).length ((u ++ l).map Value.bool) → w.grownBy w' v.ownBlock → wpList Tryz.prog ops Q rest (a.put o.dst v') w') : wpList Tryz.prog ops Q (o :: rest) a w := by
 obtain ⟨i0, hi, hz0, hz1, hz2⟩ := info_parts info4
 cases p with
 | none =>
   have h0 : l = [] := by
     cases l with
     | nil => rfl
     | cons a t => obtain ⟨b, off, h, _⟩ := hB (by simp); cases h
   subst h0
   obtain rfl := hnil rfl
   have hrun := run_append_owned_none (P := Tryz.prog) (w := w) base 44 o.type 4 i0 1 Tryz.underlying44 hi v u.length _ hown
   refine wpList_plain hgd fun K' hK' => ?_
   unfold Oper.wp
   simp only [List.length_nil] at hx
   simp [execOp, ho, resolve, invoke, builtin, hs, hx, hrun, Result.andThen]
   exact hK' _ _ (hK v w (by simpa using hown) ⟨rfl, rfl, rfl, Nat.le_refl _, fun _ _ _ => rfl⟩)
 | some ad =>
   refine wpList_append_own w hgd s x 44 ho base 4 i0 (.bool false) 1 1 Tryz.underlying44 hi hz0 hz1 hz2 rfl (by decide) v u.length _ hs hown ad l.length c (l.map Value.bool) hx (by simp) (bools_cells hB) ?_ (by unfold maxLen; omega) (by omega) hbase (fun v' w' a b _ => hK v' w' (by simpa using a) b)
   intro u hu
   obtain ⟨x, _, rfl⟩ := List.mem_map.1 hu
   rfl
theorem bools_one {w : World} (x : Bool) : BoolsAt (w.alloc (.cells #[.bool x] 4)) (some ⟨w.heap.size, 0, none⟩) [x] := fun _ => ⟨w.heap.size, 0, rfl, fun i hi => by
 match i, hi with
 | 0, _ => simp [go_sem]⟩
def nodesV (bs : List Bool) (ps : List (Int × Int)) : Nat → List Bool
 | 0 => false :: bs
 | k + 1 => nodesV bs ps k ++ [match ps[k]? with | some p => litV (nodesV bs ps k) p.1 && litV (nodesV bs ps k) p.2 | none => false]
theorem nodesV_succ {bs : List Bool} {ps : List (Int × Int)} {k : Nat} (h : k < ps.length) : nodesV bs ps (k + 1) = nodesV bs ps k ++ [litV (nodesV bs ps k) ps[k].1 && litV (nodesV bs ps k) ps[k].2] := by
 simp [nodesV, List.getElem?_eq_getElem h]
theorem nodesV_len (bs : List Bool) (ps : List (Int × Int)) (k : Nat) : (nodesV bs ps k).length = 1 + bs.length + k := by
 induction k with
 | zero => simp [nodesV]; omega
 | succ k ih => simp [nodesV, ih]; omega
theorem stand_bd {a b n : Int} (h : standB a b n = true) : 0 ≤ a ∧ a < 2 * n ∧ 0 ≤ b ∧ b < 2 * n := by
 simp [standB] at h
 omega
end Go.Proofs.YtabnimgpednhjabGreat.Gg

namespace Go.Proofs.YtabnimgpednhjabGreat.Gg
open Go.RowKit
set_option maxRecDepth 100000
theorem turn_iff {x y : Int} : x = turn y ↔ x / 2 = y / 2 ∧ x ≠ y := by
 unfold turn odd
 by_cases h : y % 2 = 1
 · have : (y % 2 == 1) = true := by simpa using h
   rw [this, if_pos rfl]; omega
 · have : (y % 2 == 1) = false := by simpa using h
   rw [this, if_neg (by decide)]; omega
theorem getD_app (ps : List (Int × Int)) (p : Int × Int) (k : Nat) (h : k < ps.length) : (ps ++ [p])[k]? = ps[k]? := List.getElem?_append_left h
theorem stN_app (ins : Int) (ps : List (Int × Int)) (p : Int × Int) (k : Nat) (h : k ≤ ps.length) : stN ins (ps ++ [p]) k = stN ins ps k := by
 induction k with
 | zero => rfl
 | succ k ih => simp only [stN]; rw [ih (by omega), getD_app ps p k (by omega)]
theorem nodesV_app (bs : List Bool) (ps : List (Int × Int)) (p : Int × Int) (k : Nat) (h : k ≤ ps.length) : nodesV bs (ps ++ [p]) k = nodesV bs ps k := by
 induction k with
 | zero => rfl
 | succ k ih => simp only [nodesV]; rw [ih (by omega), getD_app ps p k (by omega)]
theorem nodesV_pre (bs : List Bool) (ps : List (Int × Int)) {i k : Nat} (h : i ≤ k) : ∃ t, nodesV bs ps k = nodesV bs ps i ++ t := by
 induction k with
 | zero => obtain rfl : i = 0 := by omega
           exact ⟨[], by simp⟩
 | succ k ih =>
   by_cases e : i = k + 1
   · subst e; exact ⟨[], by simp⟩
   · obtain ⟨t, ht⟩ := ih (by omega)
     simp only [nodesV]
     rw [ht, List.append_assoc]
     exact ⟨_, rfl⟩
theorem litV_app (v t : List Bool) (x : Int) (h0 : 0 ≤ x) (hx : x < 2 * v.length) : litV (v ++ t) x = litV v x := by
 unfold litV
 congr 1
 rw [List.getD_eq_getElem?_getD, List.getD_eq_getElem?_getD, List.getElem?_append_left (by omega)]
theorem chk_keep {ins : Int} {ps : List (Int × Int)} (hc : chkE ins ps = 0) {x y : Int} (hx : 0 ≤ x) (hxy : x ≤ y) (hy : y < 2 * (1 + ins + ps.length)) (hok : makOk ps x y = true) : chkE ins (makPs ps x y) = 0 := by
 obtain ⟨h0, h1, hlen, hst, hd⟩ := chk_zero hc
 by_cases c1 : x = 0 ∨ x = turn y
 · rw [(mak_no (ins := ins) c1).2.2]; exact hc
 by_cases c2 : x = 1 ∨ x = y
 · rw [(mak_one (ins := ins) c1 c2).2.2]; exact hc
 rw [(mak_add (ins := ins) c1 c2).2.1] at hok
 rw [(mak_add (ins := ins) c1 c2).2.2]
 unfold addPs
 by_cases c3 : 0 ≤ andAt ps ps.length (x, y)
 · rw [if_pos c3]; exact hc
 have c4 : ps.length < 1000000 := by simpa [addOk, c3] using hok
 rw [if_neg c3, if_neg (by omega)]
 have hlast : (ps ++ [(x, y)])[ps.length]? = some (x, y) := by simp
 have c5 : ¬ x / 2 = y / 2 := fun h => c1 (Or.inr (turn_iff.2 ⟨h, fun e => c2 (Or.inr e)⟩))
 refine chk_ok (btw_true.2 ⟨h0, h1⟩) (by simp; omega) ?_ ?_
 · rw [List.length_append]
   show stN ins (ps ++ [(x, y)]) (ps.length + 1) = true
   simp only [stN]
   rw [stN_app ins ps _ _ (Nat.le_refl _), hst, hlast]
   simp [standB]
   omega
 · rw [List.length_append]
   show dupN (ps ++ [(x, y)]) (ps.length + 1) = false
   simp only [dupN]
   rw [dupN_app ps _ _ (Nat.le_refl _), hd, hlast]
   simp only []
   rw [andAt_app ps _ _ (Nat.le_refl _)]
   simpa using c3
theorem len_keep (ps : List (Int × Int)) (x y : Int) : ps.length ≤ (makPs ps x y).length := by
 unfold makPs addPs
 split
 · omega
 split
 · omega
 split
 · omega
 split
 · omega
 · simp
theorem nodes_keep (bs : List Bool) (ps : List (Int × Int)) (x y : Int) : ∃ t, nodesV bs (makPs ps x y) (makPs ps x y).length = nodesV bs ps ps.length ++ t := by
 unfold makPs addPs
 split
 · exact ⟨[], by simp⟩
 split
 · exact ⟨[], by simp⟩
 split
 · exact ⟨[], by simp⟩
 split
 · exact ⟨[], by simp⟩
 · rw [List.length_append]
   show ∃ t, nodesV bs (ps ++ [(x, y)]) (ps.length + 1) = _
   simp only [nodesV]
   rw [nodesV_app bs ps _ _ (Nat.le_refl _)]
   exact ⟨_, rfl⟩
theorem litV_zero (bs : List Bool) (ps : List (Int × Int)) (k : Nat) : litV (nodesV bs ps k) 0 = false ∧ litV (nodesV bs ps k) 1 = true := by
 obtain ⟨t, ht⟩ := nodesV_pre bs ps (Nat.zero_le k)
 rw [ht]
 constructor <;> simp [litV, nodesV, odd]
theorem litV_turn (v : List Bool) (y : Int) : litV v (turn y) = !litV v y := by
 unfold litV turn
 cases ho : odd y
 · have e : y % 2 = 0 := by simp [odd] at ho; omega
   simp only [Bool.false_eq_true, if_false]
   have e2 : odd (y + 1) = true := by simp [odd]; omega
   have e3 : (y + 1) / 2 = y / 2 := by omega
   rw [e2, e3]
   cases v.getD (y / 2).toNat false <;> rfl
 · have e : y % 2 = 1 := by simpa [odd] using ho
   simp only [if_true]
   have e2 : odd (y - 1) = false := by simp [odd]; omega
   have e3 : (y - 1) / 2 = y / 2 := by omega
   rw [e2, e3]
   cases v.getD (y / 2).toNat false <;> rfl
theorem andAt_is {ps : List (Int × Int)} {n : Nat} {x : Int × Int} (h : 0 ≤ andAt ps n x) : ∃ i : Nat, andAt ps n x = i ∧ ∃ (hi : i < ps.length), i < n ∧ ps[i] = x := by
 unfold andAt at *
 cases e : (ps.take n).findIdx? (· == x) with
 | none => rw [e] at h; simp at h
 | some i =>
   rw [List.findIdx?_eq_some_iff_getElem] at e
   obtain ⟨h1, h2, _⟩ := e
   rw [List.length_take] at h1
   rw [List.getElem_take] at h2
   exact ⟨i, rfl, by omega, by omega, by simpa using h2⟩
theorem lit_even (v : List Bool) (n : Nat) (h : n < v.length) : litV v (2 * (n : Int)) = v[n] := by
 unfold litV
 have e1 : odd (2 * (n : Int)) = false := by simp [odd]
 have e2 : (2 * (n : Int)) / 2 = n := by omega
 rw [e1, e2, Int.toNat_natCast, getD_bools h]
 cases v[n] <;> rfl
theorem node_is (bs : List Bool) (ps : List (Int × Int)) (hst : stN bs.length ps ps.length = true) (i : Nat) (hi : i < ps.length) :
   litV (nodesV bs ps ps.length) (2 * (1 + (bs.length : Int) + i)) = (litV (nodesV bs ps ps.length) ps[i].1 && litV (nodesV bs ps ps.length) ps[i].2) := by
 have hs : standB ps[i].1 ps[i].2 (1 + bs.length + i) = true := by
   have := stN_down (k := i + 1) hst (by omega)
   rw [stN_succ hi, Bool.and_eq_true] at this
   exact this.2
 obtain ⟨a0, a1, b0, b1⟩ := stand_bd hs
 have hl := nodesV_len bs ps i
 obtain ⟨t, ht⟩ := nodesV_pre bs ps (show i + 1 ≤ ps.length by omega)
 rw [ht, nodesV_succ hi, List.append_assoc]
 have e : (2 * (1 + (bs.length : Int) + i)) = 2 * ((1 + bs.length + i : Nat) : Int) := by omega
 rw [e, lit_even _ _ (by simp [hl]), litV_app _ _ _ a0 (by rw [hl]; omega), litV_app _ _ _ b0 (by rw [hl]; omega)]
 rw [List.getElem_append_right (by omega)]
 simp [hl]
theorem keep_lit (ps : List (Int × Int)) (bs : List Bool) (hc : chkE bs.length ps = 0) {x y : Int} (hx : 0 ≤ x) (hxy : x ≤ y) (hy : y < 2 * (1 + (bs.length : Int) + ps.length)) (hok : makOk ps x y = true) :
   litV (nodesV bs (makPs ps x y) (makPs ps x y).length) (makLit bs.length ps x y) = (litV (nodesV bs ps ps.length) x && litV (nodesV bs ps ps.length) y) := by
 obtain ⟨h0, h1, hlen, hst, hd⟩ := chk_zero hc
 by_cases c1 : x = 0 ∨ x = turn y
 · rw [(mak_no (ins := bs.length) c1).1, (mak_no (ins := bs.length) c1).2.2, (litV_zero bs ps _).1]
   rcases c1 with c1 | c1
   · rw [c1, (litV_zero bs ps _).1]; rfl
   · rw [c1, litV_turn _ _]; cases litV (nodesV bs ps ps.length) y <;> rfl
 by_cases c2 : x = 1 ∨ x = y
 · rw [(mak_one (ins := bs.length) c1 c2).1, (mak_one (ins := bs.length) c1 c2).2.2]
   rcases c2 with c2 | c2
   · rw [c2, (litV_zero bs ps _).2]; rfl
   · rw [c2]; cases litV (nodesV bs ps ps.length) y <;> rfl
 rw [(mak_add (ins := bs.length) c1 c2).2.1] at hok
 have hk := chk_keep hc hx hxy hy (by rw [(mak_add (ins := bs.length) c1 c2).2.1]; exact hok)
 rw [(mak_add (ins := bs.length) c1 c2).2.2] at hk ⊢
 rw [(mak_add (ins := bs.length) c1 c2).1]
 unfold addPs addLit at *
 by_cases c3 : 0 ≤ andAt ps ps.length (x, y)
 · rw [if_pos c3, if_pos c3]
   obtain ⟨i, e1, hi, _, e2⟩ := andAt_is c3
   rw [e1, node_is bs ps hst i hi, e2]
 have c4 : ps.length < 1000000 := by simpa [addOk, c3] using hok
 rw [if_neg c3, if_neg (by omega)] at hk ⊢
 rw [if_neg c3, if_neg (by omega)]
 obtain ⟨_, _, _, hst2, _⟩ := chk_zero hk
 have := node_is bs (ps ++ [(x, y)]) hst2 ps.length (by simp)
 rw [this, List.getElem_append_right (Nat.le_refl _)]
 simp only [Nat.sub_self, List.getElem_cons_zero]
 have hl := nodesV_len bs ps ps.length
 have hn : nodesV bs (ps ++ [(x, y)]) (ps ++ [(x, y)]).length = nodesV bs ps ps.length ++ [litV (nodesV bs ps ps.length) x && litV (nodesV bs ps ps.length) y] := by
   rw [List.length_append]
   show nodesV bs (ps ++ [(x, y)]) (ps.length + 1) = _
   rw [nodesV_succ (by simp), nodesV_app bs ps _ _ (Nat.le_refl _), List.getElem_append_right (Nat.le_refl _)]
   simp
 rw [hn, litV_app _ _ x hx (by rw [hl]; omega), litV_app _ _ y (by omega) (by rw [hl]; omega)]
theorem lit_keep_bd {ins : Int} {ps : List (Int × Int)} (h0 : 0 ≤ ins) {x y : Int} (hx : 0 ≤ x) (hxy : x ≤ y) (hy : y < 2 * (1 + ins + ps.length)) (hok : makOk ps x y = true) : 0 ≤ makLit ins ps x y ∧ makLit ins ps x y < 2 * (1 + ins + (makPs ps x y).length) := by
 by_cases c1 : x = 0 ∨ x = turn y
 · rw [(mak_no (ins := ins) c1).1, (mak_no (ins := ins) c1).2.2]; omega
 by_cases c2 : x = 1 ∨ x = y
 · rw [(mak_one (ins := ins) c1 c2).1, (mak_one (ins := ins) c1 c2).2.2]; omega
 rw [(mak_add (ins := ins) c1 c2).2.1] at hok
 rw [(mak_add (ins := ins) c1 c2).1, (mak_add (ins := ins) c1 c2).2.2]
 unfold addPs addLit
 by_cases c3 : 0 ≤ andAt ps ps.length (x, y)
 · rw [if_pos c3, if_pos c3]
   obtain ⟨i, e1, hi, _⟩ := andAt_is c3
   rw [e1]; omega
 have c4 : ps.length < 1000000 := by simpa [addOk, c3] using hok
 rw [if_neg c3, if_neg c3, if_neg (by omega), if_neg (by omega), List.length_append]
 simp
 omega
end Go.Proofs.YtabnimgpednhjabGreat.Gg

namespace Go.Proofs.YtabnimgpednhjabGreat.Gg
open Go.RowKit
set_option maxRecDepth 100000
abbrev Gr := List (Int × Int)
def Val (n : Nat) (ps : Gr) (l : Int) : Prop := 0 ≤ l ∧ l < 2 * (1 + (n : Int) + ps.length)
def sem (ps : Gr) (bs : List Bool) (l : Int) : Bool := litV (nodesV bs ps ps.length) l
structure Ext (n k : Nat) (ps qs : Gr) : Prop where
 good : chkE n qs = 0
 len : ps.length ≤ qs.length ∧ qs.length ≤ ps.length + k
 same : ∀ bs : List Bool, bs.length = n → ∀ l, Val n ps l → sem qs bs l = sem ps bs l
theorem Ext.refl {n : Nat} {ps : Gr} (h : chkE n ps = 0) : Ext n 0 ps ps := ⟨h, ⟨Nat.le_refl _, Nat.le_refl _⟩, fun _ _ _ _ => rfl⟩
theorem Ext.val {n k : Nat} {ps qs : Gr} (h : Ext n k ps qs) {l : Int} (hl : Val n ps l) : Val n qs l := ⟨hl.1, by have := hl.2; have := h.len.1; omega⟩
theorem Ext.trans {n j k : Nat} {ps qs rs : Gr} (h : Ext n j ps qs) (g : Ext n k qs rs) : Ext n (j + k) ps rs :=
 ⟨g.good, ⟨Nat.le_trans h.len.1 g.len.1, by have := h.len.2; have := g.len.2; omega⟩, fun bs hb l hl => (g.same bs hb l (h.val hl)).trans (h.same bs hb l hl)⟩
theorem Ext.more {n j k : Nat} {ps qs : Gr} (h : Ext n j ps qs) (hk : j ≤ k) : Ext n k ps qs := ⟨h.good, ⟨h.len.1, by have := h.len.2; omega⟩, h.same⟩
theorem Val.turn {n : Nat} {ps : Gr} {l : Int} (h : Val n ps l) : Val n ps (turn l) := by
 unfold Val at *
 unfold Gg.turn odd
 by_cases e : l % 2 = 1
 · have : (l % 2 == 1) = true := by simpa using e
   rw [this, if_pos rfl]; omega
 · have : (l % 2 == 1) = false := by simpa using e
   rw [this, if_neg (by decide)]; omega
theorem sem_turn (ps : Gr) (bs : List Bool) (l : Int) : sem ps bs (turn l) = !sem ps bs l := litV_turn _ _
theorem sem_no (ps : Gr) (bs : List Bool) : sem ps bs 0 = false := (litV_zero _ _ _).1
theorem sem_yes (ps : Gr) (bs : List Bool) : sem ps bs 1 = true := (litV_zero _ _ _).2
theorem val_no (n : Nat) (ps : Gr) : Val n ps 0 := ⟨by omega, by omega⟩
theorem val_yes (n : Nat) (ps : Gr) : Val n ps 1 := ⟨by omega, by omega⟩
theorem mak_ok {ps : Gr} {x y : Int} (h : ps.length < 1000000) : makOk ps x y = true := by
 unfold makOk addOk
 split
 · rfl
 · split
   · rfl
   · simp [h]
theorem mak_len (ps : Gr) (x y : Int) : (makPs ps x y).length ≤ ps.length + 1 := by
 unfold makPs addPs
 (repeat' split) <;> simp
structure Does (n k : Nat) (ps : Gr) (r : Int × Gr) (f : List Bool → Bool) : Prop where
 ext : Ext n k ps r.2
 val : Val n r.2 r.1
 tells : ∀ bs : List Bool, bs.length = n → sem r.2 bs r.1 = f bs
def bothG (n : Nat) (p q : Int) (ps : Gr) : Int × Gr := (andLit n ps p q, andPs ps p q)
def eitherG (n : Nat) (p q : Int) (ps : Gr) : Int × Gr := (turn (bothG n (turn p) (turn q) ps).1, (bothG n (turn p) (turn q) ps).2)
def differG (n : Nat) (p q : Int) (ps : Gr) : Int × Gr := bothG n (eitherG n p q ps).1 (turn (bothG n p q (eitherG n p q ps).2).1) (bothG n p q (eitherG n p q ps).2).2
def chooseG (n : Nat) (c y z : Int) (ps : Gr) : Int × Gr := if y = z then (y, ps) else eitherG n (bothG n c y ps).1 (bothG n (turn c) z (bothG n c y ps).2).1 (bothG n (turn c) z (bothG n c y ps).2).2
theorem both_does {n : Nat} {ps : Gr} (hg : chkE n ps = 0) (hl : ps.length < 1000000) {p q : Int} (hp : Val n ps p) (hq : Val n ps q) : Does n 1 ps (bothG n p q ps) (fun bs => sem ps bs p && sem ps bs q) := by
 have hx : 0 ≤ min p q := by have := hp.1; have := hq.1; omega
 have hxy : min p q ≤ max p q := by omega
 have hy : max p q < 2 * (1 + (n : Int) + ps.length) := by have := hp.2; have := hq.2; omega
 have hok := mak_ok (ps := ps) (x := min p q) (y := max p q) hl
 refine ⟨⟨chk_keep hg hx hxy hy hok, ⟨len_keep _ _ _, mak_len _ _ _⟩, fun bs hb l hl => ?_⟩, lit_keep_bd (by omega) hx hxy hy hok, fun bs hb => ?_⟩
 · obtain ⟨t, ht⟩ := nodes_keep bs ps (min p q) (max p q)
   show litV (nodesV bs (makPs ps (min p q) (max p q)) (makPs ps (min p q) (max p q)).length) l = _
   rw [ht]
   exact litV_app _ _ _ hl.1 (by rw [nodesV_len, hb]; have := hl.2; omega)
 · subst hb
   have h := keep_lit ps bs hg hx hxy hy hok
   show litV _ (makLit _ ps (min p q) (max p q)) = _
   rw [show sem ps bs p = litV (nodesV bs ps ps.length) p from rfl, show sem ps bs q = litV (nodesV bs ps ps.length) q from rfl]
   refine h.trans ?_
   rcases Int.le_total p q with e | e
   · rw [Int.min_eq_left e, Int.max_eq_right e]
   · rw [Int.min_eq_right e, Int.max_eq_left e, Bool.and_comm]
theorem either_does {n : Nat} {ps : Gr} (hg : chkE n ps = 0) (hl : ps.length < 1000000) {p q : Int} (hp : Val n ps p) (hq : Val n ps q) : Does n 1 ps (eitherG n p q ps) (fun bs => sem ps bs p || sem ps bs q) := by
 have h := both_does hg hl hp.turn hq.turn
 refine ⟨h.ext, h.val.turn, fun bs hb => ?_⟩
 show sem (bothG n (turn p) (turn q) ps).2 bs (turn (bothG n (turn p) (turn q) ps).1) = _
 rw [sem_turn, h.tells bs hb, sem_turn, sem_turn]
 cases sem ps bs p <;> cases sem ps bs q <;> rfl
theorem differ_does {n : Nat} {ps : Gr} (hg : chkE n ps = 0) (hl : ps.length + 2 < 1000000) {p q : Int} (hp : Val n ps p) (hq : Val n ps q) : Does n 3 ps (differG n p q ps) (fun bs => sem ps bs p != sem ps bs q) := by
 have h1 := either_does hg (by omega) hp hq
 have l1 := h1.ext.len.2
 have h2 := both_does h1.ext.good (by omega) (h1.ext.val hp) (h1.ext.val hq)
 have l2 := h2.ext.len.2
 have h3 := both_does h2.ext.good (by omega) (h2.ext.val h1.val) h2.val.turn
 refine ⟨((h1.ext.trans h2.ext).trans h3.ext).more (by omega), h3.val, fun bs hb => ?_⟩
 show sem (bothG n _ _ _).2 bs (bothG n _ _ _).1 = _
 rw [h3.tells bs hb, sem_turn, h2.tells bs hb, h2.ext.same bs hb _ h1.val, h1.tells bs hb, h1.ext.same bs hb _ hp, h1.ext.same bs hb _ hq]
 cases sem ps bs p <;> cases sem ps bs q <;> rfl
theorem choose_does {n : Nat} {ps : Gr} (hg : chkE n ps = 0) (hl : ps.length + 2 < 1000000) {c y z : Int} (hc : Val n ps c) (hy : Val n ps y) (hz : Val n ps z) : Does n 3 ps (chooseG n c y z ps) (fun bs => if sem ps bs c then sem ps bs y else sem ps bs z) := by
 unfold chooseG
 split
 · rename_i e
   subst e
   exact ⟨(Ext.refl hg).more (by omega), hy, fun bs _ => by cases sem ps bs c <;> rfl⟩
 · have h1 := both_does hg (by omega) hc hy
   have l1 := h1.ext.len.2
   have h2 := both_does h1.ext.good (by omega) (h1.ext.val hc).turn (h1.ext.val hz)
   have l2 := h2.ext.len.2
   have h3 := either_does h2.ext.good (by omega) (h2.ext.val h1.val) h2.val
   refine ⟨((h1.ext.trans h2.ext).trans h3.ext).more (by omega), h3.val, fun bs hb => ?_⟩
   rw [h3.tells bs hb, h2.tells bs hb, h2.ext.same bs hb _ h1.val, h1.tells bs hb, sem_turn, h1.ext.same bs hb _ hc, h1.ext.same bs hb _ hz]
   cases sem ps bs c <;> cases sem ps bs y <;> cases sem ps bs z <;> rfl
end Go.Proofs.YtabnimgpednhjabGreat.Gg

namespace Go.Proofs.YtabnimgpednhjabGreat.Gg
open Go.RowKit Go.Maps Go.WideMaps
set_option maxRecDepth 100000
structure Bs (w : World) (base Pb M B : Nat) (v : Value) (n : Nat) (ps : Gr) : Prop where
 bm : Bm w base M B v (n : Int) ps
 p0 : w.cell? ⟨Pb, 0, none⟩ = some (.pointer (some ⟨M, 0, none⟩))
 ap : Apart M B v Pb
 hb : base ≤ w.heap.size
 good : chkE n ps = 0
theorem Bs.later {w w1 : World} {base Pb M B : Nat} {v : Value} {n : Nat} {ps : Gr} (h : Bs w base Pb M B v n ps) (hb : Below w.heap.size w w1) : Bs w1 base Pb M B v n ps :=
 ⟨h.bm.later hb, cell_later hb h.p0, h.ap, Nat.le_trans h.hb hb.size, h.good⟩
theorem Bs.ins {w : World} {base Pb M B : Nat} {v : Value} {n : Nat} {ps : Gr} (h : Bs w base Pb M B v n ps) : (n : Int) ≤ 1000 ∧ ps.length ≤ 1000000 ∧ dupN ps ps.length = false := by
 obtain ⟨_, h1, h2, _, h4⟩ := chk_zero h.good
 exact ⟨h1, h2, h4⟩
def Made (w : World) (base Pb M B : Nat) (v : Value) (n : Nat) (r : Int × Gr) (e : Ending) (w' : World) : Prop :=
 ∃ v', e = .returned (.int .i64 r.1) ∧ Bs w' base Pb M B v' n r.2 ∧ Gon base M B w v w' v'
set_option maxHeartbeats 2000000 in
theorem both_any {w : World} {base Pb M B : Nat} {v : Value} {n : Nat} {ps : Gr} (h : Bs w base Pb M B v n ps) (hl : ps.length < 1000000) {p q : Int} (hp : Val n ps p) (hq : Val n ps q) :
   Calls Tryz.prog 97 #[.pointer (some ⟨Pb, 0, none⟩), .int .i64 p, .int .i64 q] w (Made w base Pb M B v n (bothG n p q ps)) := by
 obtain ⟨i1, _, i3⟩ := h.ins
 have hd := both_does h.good hl hp hq
 have HA := hide (makerAnd2_any n ps (by omega) (by omega) i1 p q hp.1 (by have := hp.2; omega) hq.1 (by have := hq.2; omega) i3 w base M B v h.hb h.bm)
 have HP := hide h
 have HG : Hid (chkE n (andPs ps p q) = 0) := hd.ext.good
 have c0 := h.p0
 unfold Made
 rw [show bothG n p q ps = (andLit n ps p q, andPs ps p q) from rfl]
 clear h hd hp hq i3
 generalize andLit n ps p q = L at *
 generalize andPs ps p q = qs at *
 generalize andOk ps p q = ok at *
 go_enter Tryz.func97, Tryz.ntmps97
 go_wp2_with fail
 refine HA.out.mono ?_
 rintro e w1 ⟨v1, rfl, hbm, hgn⟩
 have HR : Hid (Bs w1 base Pb M B v1 n qs ∧ Gon base M B w v w1 v1) := ⟨⟨hbm, hgn.cell HP.out.p0 HP.out.ap, (hgn.far _ (World.block_lt_of_cell? _ _ HP.out.p0) HP.out.ap).2, Nat.le_trans HP.out.hb hgn.bel.size, HG.out⟩, hgn⟩
 clear hbm hgn
 go_wp2
 go_ret
 exact ⟨v1, rfl, HR.out.1, HR.out.2⟩
set_option maxHeartbeats 2000000 in
theorem either_any {w : World} {base Pb M B : Nat} {v : Value} {n : Nat} {ps : Gr} (h : Bs w base Pb M B v n ps) (hl : ps.length < 1000000) {p q : Int} (hp : Val n ps p) (hq : Val n ps q) :
   Calls Tryz.prog 99 #[.pointer (some ⟨Pb, 0, none⟩), .int .i64 p, .int .i64 q] w (Made w base Pb M B v n (eitherG n p q ps)) := by
 obtain ⟨i1, _, _⟩ := h.ins
 have hd := both_does h.good hl hp.turn hq.turn
 have HT1 := hide (turn_any p hp.1 (by have := hp.2; omega))
 have HT2 := hide (turn_any q hq.1 (by have := hq.2; omega))
 have HB := hide (both_any h hl hp.turn hq.turn)
 have HT3 := hide (turn_any (bothG n (turn p) (turn q) ps).1 hd.val.1 (by have := hd.val.2; have := hd.ext.len.2; omega))
 unfold Made at *
 unfold eitherG
 clear h hd hp hq
 generalize bothG n (turn p) (turn q) ps = R at *
 obtain ⟨L, qs⟩ := R
 simp only at HB HT3 ⊢
 generalize turn p = tp at *
 generalize turn q = tq at *
 generalize turn L = tL at *
 go_enter Tryz.func99, Tryz.ntmps99
 go_wp2_with fail
 refine (HT1.out _).mono ?_
 rintro e w1 ⟨rfl, hw1⟩
 obtain rfl : w = w1 := hw1.symm
 go_wp2_with fail
 refine (HT2.out _).mono ?_
 rintro e w1 ⟨rfl, hw1⟩
 obtain rfl : w = w1 := hw1.symm
 go_wp2_with fail
 refine HB.out.mono ?_
 rintro e w1 ⟨v1, rfl, hbm, hgn⟩
 have HR := hide (And.intro hbm hgn)
 clear hbm hgn
 go_wp2_with fail
 refine (HT3.out _).mono ?_
 rintro e w2 ⟨rfl, hw1⟩
 obtain rfl : w1 = w2 := hw1.symm
 go_wp2
 go_ret
 exact ⟨v1, rfl, HR.out.1, HR.out.2⟩
set_option maxHeartbeats 2000000 in
theorem differ_any {w : World} {base Pb M B : Nat} {v : Value} {n : Nat} {ps : Gr} (h : Bs w base Pb M B v n ps) (hl : ps.length + 2 < 1000000) {p q : Int} (hp : Val n ps p) (hq : Val n ps q) :
   Calls Tryz.prog 101 #[.pointer (some ⟨Pb, 0, none⟩), .int .i64 p, .int .i64 q] w (Made w base Pb M B v n (differG n p q ps)) := by
 obtain ⟨i1, _, _⟩ := h.ins
 have h1 := either_does h.good (by omega) hp hq
 have l1 := h1.ext.len.2
 have h2 := both_does h1.ext.good (by omega) (h1.ext.val hp) (h1.ext.val hq)
 have l2 := h2.ext.len.2
 have h3 := h2.ext.val h1.val
 have H1 := hide (either_any h (by omega) hp hq)
 have H2 := hide (fun (w : World) (v : Value) (h : Bs w base Pb M B v n (eitherG n p q ps).2) => both_any h (by omega) (h1.ext.val hp) (h1.ext.val hq))
 have H3 := hide (fun (w : World) (v : Value) (h : Bs w base Pb M B v n (bothG n p q (eitherG n p q ps).2).2) => both_any h (by omega) h3 h2.val.turn)
 have HT := hide (turn_any (bothG n p q (eitherG n p q ps).2).1 h2.val.1 (by have := h2.val.2; omega))
 unfold Made at *
 unfold differG
 clear h hp hq h1 h2 h3
 generalize eitherG n p q ps = R1 at *
 obtain ⟨L1, q1⟩ := R1
 simp only at H1 H2 H3 HT l1 l2 ⊢
 generalize bothG n p q q1 = R2 at *
 obtain ⟨L2, q2⟩ := R2
 simp only at H2 H3 HT l2 ⊢
 generalize turn L2 = tL at *
 generalize bothG n L1 tL q2 = R3 at *
 obtain ⟨L3, q3⟩ := R3
 simp only at H3 ⊢
 go_enter Tryz.func101, Tryz.ntmps101
 go_wp2_with fail
 refine H1.out.mono ?_
 rintro e w1 ⟨v1, rfl, hbm, hgn⟩
 have HR := hide hgn
 have HC := hide (H2.out _ _ hbm)
 clear hbm hgn H2
 go_wp2_with fail
 refine HC.out.mono ?_
 rintro e w2 ⟨v2, rfl, hbm, hgn⟩
 have HR2 := hide (HR.out.trans hgn)
 have HC3 := hide (H3.out _ _ hbm)
 clear hbm hgn H3 HR HC
 go_wp2_with fail
 refine (HT.out _).mono ?_
 rintro e w3 ⟨rfl, hw1⟩
 obtain rfl : w2 = w3 := hw1.symm
 go_wp2_with fail
 refine HC3.out.mono ?_
 rintro e w3 ⟨v3, rfl, hbm, hgn⟩
 have HR3 := hide (And.intro hbm (HR2.out.trans hgn))
 clear hbm hgn HR2 HC3
 go_wp2
 go_ret
 exact ⟨v3, rfl, HR3.out.1, HR3.out.2⟩
set_option maxHeartbeats 2000000 in
theorem choose_any {w : World} {base Pb M B : Nat} {v : Value} {n : Nat} {ps : Gr} (h : Bs w base Pb M B v n ps) (hl : ps.length + 2 < 1000000) {c y z : Int} (hc : Val n ps c) (hy : Val n ps y) (hz : Val n ps z) :
   Calls Tryz.prog 103 #[.pointer (some ⟨Pb, 0, none⟩), .int .i64 c, .int .i64 y, .int .i64 z] w (Made w base Pb M B v n (chooseG n c y z ps)) := by
 obtain ⟨i1, _, _⟩ := h.ins
 by_cases hyz : y = z
 · subst hyz
   have HE : Hid (chooseG n c y y ps = (y, ps)) := by unfold chooseG; rw [if_pos rfl]; exact rfl
   have HH := hide h
   unfold Made
   rw [HE.out]
   clear h
   go_enter Tryz.func103, Tryz.ntmps103
   go_wp2
   go_ret
   exact ⟨v, rfl, HH.out, Gon.refl⟩
 · have h1 := both_does h.good (by omega) hc hy
   have l1 := h1.ext.len.2
   have h2 := both_does h1.ext.good (by omega) (h1.ext.val hc).turn (h1.ext.val hz)
   have l2 := h2.ext.len.2
   have h3 := h2.ext.val h1.val
   have H1 := hide (both_any h (by omega) hc hy)
   have H2 := hide (fun (w : World) (v : Value) (h : Bs w base Pb M B v n (bothG n c y ps).2) => both_any h (by omega) (h1.ext.val hc).turn (h1.ext.val hz))
   have H3 := hide (fun (w : World) (v : Value) (h : Bs w base Pb M B v n (bothG n (turn c) z (bothG n c y ps).2).2) => either_any h (by omega) h3 h2.val)
   have HT := hide (turn_any c hc.1 (by have := hc.2; omega))
   have hne : (y == z) = false := by simpa using hyz
   unfold Made at *
   unfold chooseG
   rw [if_neg hyz]
   clear h hc hy hz h1 h2 h3 hyz
   generalize bothG n c y ps = R1 at *
   obtain ⟨L1, q1⟩ := R1
   simp only at H1 H2 H3 l1 l2 ⊢
   generalize turn c = tc at *
   generalize bothG n tc z q1 = R2 at *
   obtain ⟨L2, q2⟩ := R2
   simp only at H2 H3 l2 ⊢
   generalize eitherG n L1 L2 q2 = R3 at *
   obtain ⟨L3, q3⟩ := R3
   simp only at H3 ⊢
   go_enter Tryz.func103, Tryz.ntmps103
   go_wp2_with fail
   refine H1.out.mono ?_
   rintro e w1 ⟨v1, rfl, hbm, hgn⟩
   have HR := hide hgn
   have HC := hide (H2.out _ _ hbm)
   clear hbm hgn H2
   go_wp2_with fail
   refine (HT.out _).mono ?_
   rintro e w2 ⟨rfl, hw1⟩
   obtain rfl : w1 = w2 := hw1.symm
   go_wp2_with fail
   refine HC.out.mono ?_
   rintro e w2 ⟨v2, rfl, hbm, hgn⟩
   have HR2 := hide (HR.out.trans hgn)
   have HC3 := hide (H3.out _ _ hbm)
   clear hbm hgn H3 HR HC
   go_wp2_with fail
   refine HC3.out.mono ?_
   rintro e w3 ⟨v3, rfl, hbm, hgn⟩
   have HR3 := hide (And.intro hbm (HR2.out.trans hgn))
   clear hbm hgn HR2 HC3
   go_wp2
   go_ret
   exact ⟨v3, rfl, HR3.out.1, HR3.out.2⟩
end Go.Proofs.YtabnimgpednhjabGreat.Gg

namespace Go.Proofs.YtabnimgpednhjabGreat.Gg
open Go.RowKit Go.Maps Go.WideMaps
set_option maxRecDepth 100000
theorem info3 : (Tryz.prog.info? 3).map (fun i => (i.zero, i.size, i.bytes)) = some (some (.int .i64 0), 1, 8) := by kernel_rfl
theorem owns_ints {w : World} {base : Nat} {v : Value} {l : List Int} (h : w.ownsRow base 3 1 v l.length (l.map (Value.int .i64))) : ∃ p cap, v = .slice p l.length cap ∧ IntsAt w p l ∧ (p = none → cap = 0) := by
 have h3 := h
 obtain ⟨h1, h2⟩ := h
 rcases h2 with ⟨rfl, h0⟩ | ⟨g, cap, cur, rfl, hg, hh, hn, hm, hs, ht⟩
 · exact ⟨none, 0, by rw [h0], fun h => by omega, fun _ => rfl⟩
 · refine ⟨_, cap, rfl, fun _ => ⟨g, 0, rfl, fun i hi => ?_⟩, fun h => by cases h⟩
   have := h3.cellAt i (by omega)
   rw [Nat.zero_add, this, List.getElem?_map, List.getElem?_eq_getElem hi]
   rfl
theorem ints_cells {w : World} {l : List Int} {ad : Addr} (h : IntsAt w (some ad) l) : ∀ j u, (l.map (Value.int .i64))[j]? = some u → w.cell? (ad.add j) = some u := by
 intro j u hj
 obtain ⟨hjl, hju⟩ := List.getElem?_eq_some_iff.1 hj
 have hjl' : j < l.length := by simpa using hjl
 obtain ⟨b, off, h, hc⟩ := h (by omega)
 cases h
 rw [Addr.add_lit, hc j hjl', ← hju]
 simp
theorem wp_append_ints {w : World} {o : Oper} {a : Act} {K : Act → World → Prop} {Q : Exit → Act → World → Prop} (s x : Operand)
   (ho : o.op = .call { callee := .builtin .append, args := #[s, x], argTypes := #[25, 25] })
   (base : Nat) (v : Value) (u l : List Int) (hs : a.eval s = v) (hown : w.ownsRow base 3 1 v u.length (u.map (Value.int .i64))) (p : Option Addr) (c : Nat) (hx : a.eval x = .slice p l.length c) (hB : IntsAt w p l) (hnil : p = none → c = 0)
   (hb : u.length + l.length ≤ 17592186044416) (hbase : base ≤ w.heap.size)
   (hK : ∀ v' w', w'.ownsRow base 3 1 v' (u ++ l).length ((u ++ l).map (Value.int .i64)) → w.grownBy w' v.ownBlock → K (a.put o.dst v') w') : o.wp Tryz.prog a w K Q := by
 obtain ⟨i0, hi, hz0, hz1, hz2⟩ := info_parts info3
 cases p with
 | none =>
   have h0 : l = [] := by
     cases l with
     | nil => rfl
     | cons a t => obtain ⟨b, off, h, _⟩ := hB (by simp); cases h
   subst h0
   obtain rfl := hnil rfl
   have hrun := run_append_owned_none (P := Tryz.prog) (w := w) base 25 o.type 3 i0 1 Tryz.underlying25 hi v u.length _ hown
   unfold Oper.wp
   simp only [List.length_nil] at hx
   simp [execOp, ho, resolve, invoke, builtin, hs, hx, hrun, Result.andThen]
   exact hK v w (by simpa using hown) ⟨rfl, rfl, rfl, Nat.le_refl _, fun _ _ _ => rfl⟩
 | some ad =>
   refine wp_append_own w s x 25 ho base 3 i0 (.int .i64 0) 1 8 Tryz.underlying25 hi hz0 hz1 hz2 rfl (by decide) v u.length _ hs hown ad l.length c (l.map (Value.int .i64)) hx (by simp) (ints_cells hB) ?_ (by unfold maxLen; omega) (by omega) hbase (fun v' w' a b _ => hK v' w' (by simpa using a) b)
   intro u hu
   obtain ⟨x, _, rfl⟩ := List.mem_map.1 hu
   rfl
theorem wpList_append_ints {w : World} {ops : Array Oper} {rest : List Oper} {o : Oper} {a : Act} {Q : Exit → Act → World → Prop} (hgd : o.guard = none) (s x : Operand)
   (ho : o.op = .call { callee := .builtin .append, args := #[s, x], argTypes := #[25, 25] })
   (base : Nat) (v : Value) (u l : List Int) (hs : a.eval s = v) (hown : w.ownsRow base 3 1 v u.length (u.map (Value.int .i64))) (p : Option Addr) (c : Nat) (hx : a.eval x = .slice p l.length c) (hB : IntsAt w p l) (hnil : p = none → c = 0)
   (hb : u.length + l.length ≤ 17592186044416) (hbase : base ≤ w.heap.size)
   (hK : ∀ v' w', w'.ownsRow base 3 1 v' (u ++ l).length ((u ++ l).map (Value.int .i64)) → w.grownBy w' v.ownBlock → wpList Tryz.prog ops Q rest (a.put o.dst v') w') : wpList Tryz.prog ops Q (o :: rest) a w :=
 wpList_plain hgd fun _ hK' => wp_append_ints s x ho base v u l hs hown p c hx hB hnil hb hbase fun v' w' h1 h2 => hK' _ _ (hK v' w' h1 h2)
theorem step_append_ints {w : World} {ops : Array Oper} {o : Oper} {a : Act} {K : Act → World → Prop} {Q : Exit → Act → World → Prop} {E : Prop} (hgd : o.guard = none) (s x : Operand)
   (ho : o.op = .call { callee := .builtin .append, args := #[s, x], argTypes := #[25, 25] })
   (base : Nat) (v : Value) (u l : List Int) (hs : a.eval s = v) (hown : w.ownsRow base 3 1 v u.length (u.map (Value.int .i64))) (p : Option Addr) (c : Nat) (hx : a.eval x = .slice p l.length c) (hB : IntsAt w p l) (hnil : p = none → c = 0)
   (hb : u.length + l.length ≤ 17592186044416) (hbase : base ≤ w.heap.size)
   (hK : ∀ v' w', w'.ownsRow base 3 1 v' (u ++ l).length ((u ++ l).map (Value.int .i64)) → w.grownBy w' v.ownBlock → K (a.put o.dst v') w') :
   if Region.wanted o (yielded ops a.tmps) = true then Oper.wp Tryz.prog o a w K Q else E := by
 have hw : Region.wanted o (yielded ops a.tmps) = true := by simp [Region.wanted, hgd]
 rw [if_pos hw]
 exact wp_append_ints s x ho base v u l hs hown p c hx hB hnil hb hbase hK
theorem ints_one {w : World} (x : Int) : IntsAt (w.alloc (.cells #[.int .i64 x] 3)) (some ⟨w.heap.size, 0, none⟩) [x] := fun _ => ⟨w.heap.size, 0, rfl, fun i hi => by
 match i, hi with
 | 0, _ => simp [go_sem]⟩
theorem IntsAt.grown {w w1 : World} {row : Option Nat} {b : Nat} {l : List Int} (h : IntsAt w (some ⟨b, 0, none⟩) l) (hg : w.grownBy w1 row) (hne : some b ≠ row) : IntsAt w1 (some ⟨b, 0, none⟩) l := by
 intro h0
 obtain ⟨b', o', e, hc⟩ := h h0
 cases e
 exact ⟨b, 0, rfl, fun i hi => hg.cell (hc i hi) hne⟩
end Go.Proofs.YtabnimgpednhjabGreat.Gg

namespace Go.Proofs.YtabnimgpednhjabGreat.Gg
open Go.RowKit Go.Maps Go.WideMaps
set_option maxRecDepth 100000
structure Sl where
 at' : Option Addr
 ns : List Int
 cap : Nat
abbrev Sl.v (r : Sl) : Value := .slice r.at' r.ns.length r.cap
abbrev circ (ins : Int) (p : Option Addr) (len cap : Nat) (a s : Int) (i n b h : Sl) : Value := .agg #[.int .i64 ins, .slice p len cap, .int .i64 a, .int .i64 s, i.v, n.v, b.v, h.v]
abbrev circC (ins : Int) (p : Option Addr) (len cap : Nat) (a s : Int) (i n b h : Sl) : Array Value := #[.int .i64 ins, .slice p len cap, .int .i64 a, .int .i64 s, i.v, n.v, b.v, h.v]
def badI (e x : Int) : Bool := x != -1 && noLit e x
def cirE (ins : Int) (ps : List (Int × Int)) (a s : Int) (is ns bs hs : List Int) : Int :=
 if chkE ins ps ≠ 0 then chkE ins ps
 else if a < 0 ∨ s < 0 ∨ a + s ≠ ins then 4
 else if (is.length : Int) ≠ s ∨ (ns.length : Int) ≠ s then 1
 else if (is.any (badI (2 * (1 + ins + ps.length))) || ns.any (noLit (2 * (1 + ins + ps.length))) || bs.any (noLit (2 * (1 + ins + ps.length))) || hs.any (noLit (2 * (1 + ins + ps.length)))) = true then 5 else 0
theorem enter25 (args : Array Value) (w : World) : (callFunc 25 args).run Tryz.prog w = .ok (.enter 25 args) w := by kernel_rfl
theorem any_one (f : Int → Bool) (x : Int) : [x].any f = f x := by simp
set_option maxHeartbeats 1000000 in
theorem checkB1_any (x ins : Int) (p : Option Addr) (len cap : Nat) (h0 : 0 ≤ ins) (h1 : ins ≤ 1000) (h2 : len ≤ 1000001) (B : Nat) (w : World) (c0 : w.cell? ⟨B, 0, none⟩ = some (.int .i64 ins)) (c1 : w.cell? ⟨B, 1, none⟩ = some (.slice p len cap)) :
   Calls Tryz.prog 25 #[.int .i64 x, .pointer (some ⟨B, 0, none⟩)] w fun r w' => r = .returned (.bool (badI (2 * (1 + ins + len)) x)) ∧ Below w.heap.size w w' := by
 have HE : Hid (badI (2 * (1 + ins + len)) x = (x != -1 && noLit (2 * (1 + ins + len)) x)) := rfl
 generalize badI (2 * (1 + ins + len)) x = R at *
 by_cases hx : x = -1
 · have HX : Hid (R = false) := by rw [HE.out]; simp [hx, Hid]
   subst hx
   go_enter Tryz.func25, Tryz.ntmps25
   go_wp2
   go_ret
   exact ⟨ret_bool HX.out.symm, Below.refl _ _⟩
 · have hx' : (x != -1) = true := by simpa using hx
   have HX : Hid (R = noLit (2 * (1 + ins + len)) x) := by rw [HE.out, hx']; rfl
   have hb : Below w.heap.size w (w.alloc (.cells #[.int .i64 x] 3)) := bal (Below.refl _ _) _
   have HH := hide (has_any ins p len cap h0 h1 h2 [x] (some ⟨w.heap.size, 0, none⟩) 1 (by simp [maxLen]) _ (ints_one x))
   rw [any_one] at HH
   have HB := hide hb
   clear HE hb
   generalize noLit (2 * (1 + ins + len)) x = Z at *
   go_enter Tryz.func25, Tryz.ntmps25
   go_wp2_with fail
   refine HH.out.mono ?_
   rintro e w1 ⟨rfl, hb1⟩
   have HB1 := hide (bthen HB.out hb1)
   clear hb1
   go_wp2
   go_ret
   exact ⟨ret_bool (by rw [HX.out]), HB1.out⟩
structure CirAt (w : World) (p : Option Addr) (ps : List (Int × Int)) (i n b h : Sl) : Prop where
 g : PairsAt w p ps
 i : IntsAt w i.at' i.ns
 n : IntsAt w n.at' n.ns
 b : IntsAt w b.at' b.ns
 h : IntsAt w h.at' h.ns
theorem CirAt.later {w w1 : World} {p : Option Addr} {ps : List (Int × Int)} {i n b h : Sl} (H : CirAt w p ps i n b h) (hb : Below w.heap.size w w1) : CirAt w1 p ps i n b h := ⟨H.g.later hb, H.i.later hb, H.n.later hb, H.b.later hb, H.h.later hb⟩
set_option maxHeartbeats 8000000 in
theorem checkB_any (ins : Int) (p : Option Addr) (cap : Nat) (ps : List (Int × Int)) (hwf : WfP ps) (hl : ps.length ≤ 8796093022208) (a s : Int) (ha : Wf a) (hs : Wf s) (i n b h : Sl) (hli : i.ns.length ≤ maxLen) (hln : n.ns.length ≤ maxLen) (hlb : b.ns.length ≤ maxLen) (hlh : h.ns.length ≤ maxLen) (w : World) (hC : CirAt w p ps i n b h) :
   Calls Tryz.prog 6 #[circ ins p ps.length cap a s i n b h] w fun e w' => e = .returned (.int .i64 (cirE ins ps a s i.ns n.ns b.ns h.ns)) ∧ Below w.heap.size w w' := by
 have hB0 : Below w.heap.size w (w.alloc (.cells (circC ins p ps.length cap a s i n b h) 27)) := bal (Below.refl _ _) _
 have HC := hide (check_any ins p cap ps hwf hl _ (hC.g.later hB0))
 have HK := hide hC
 unfold maxLen at hli hln hlb hlh
 clear hC hwf
 by_cases hc : chkE ins ps = 0
 · obtain ⟨h0, h1, hlen, _, _⟩ := chk_zero hc
   have HE : Hid (cirE ins ps a s i.ns n.ns b.ns h.ns = if a < 0 ∨ s < 0 ∨ a + s ≠ ins then 4 else if (i.ns.length : Int) ≠ s ∨ (n.ns.length : Int) ≠ s then 1 else if (i.ns.any (badI (2 * (1 + ins + ps.length))) || n.ns.any (noLit (2 * (1 + ins + ps.length))) || b.ns.any (noLit (2 * (1 + ins + ps.length))) || h.ns.any (noLit (2 * (1 + ins + ps.length)))) = true then 5 else 0) := by unfold cirE; rw [if_neg (by simpa using hc)]; rfl
   rw [hc] at HC
   clear hc
   generalize cirE ins ps a s i.ns n.ns b.ns h.ns = R at *
   go_enter Tryz.func6, Tryz.ntmps6
   go_wp2_with fail
   refine HC.out.mono ?_
   rintro e w1 ⟨rfl, hb1⟩
   have HB1 := hide (bthen hB0 hb1)
   have q0 := cell_later hb1 (a := ⟨w.heap.size, 0, none⟩) (v := .int .i64 ins) (by simp [go_sem])
   have q1 := cell_later hb1 (a := ⟨w.heap.size, 1, none⟩) (v := .slice p ps.length cap) (by simp [go_sem])
   have q2 := cell_later hb1 (a := ⟨w.heap.size, 2, none⟩) (v := .int .i64 a) (by simp [go_sem])
   have q3 := cell_later hb1 (a := ⟨w.heap.size, 3, none⟩) (v := .int .i64 s) (by simp [go_sem])
   have q4 := cell_later hb1 (a := ⟨w.heap.size, 4, none⟩) (v := i.v) (by simp [go_sem])
   have q5 := cell_later hb1 (a := ⟨w.heap.size, 5, none⟩) (v := n.v) (by simp [go_sem])
   have q6 := cell_later hb1 (a := ⟨w.heap.size, 6, none⟩) (v := b.v) (by simp [go_sem])
   have q7 := cell_later hb1 (a := ⟨w.heap.size, 7, none⟩) (v := h.v) (by simp [go_sem])
   obtain ⟨ia, il, ic⟩ := i
   obtain ⟨na, nl, nc⟩ := n
   obtain ⟨ba, bl, bc⟩ := b
   obtain ⟨ga, gl, gc⟩ := h
   simp only [Sl.v] at *
   have HW := hide ha
   have HWS := hide hs
   clear hb1 hB0 HC ha hs
   by_cases ha0 : a < 0
   · have HX : Hid (R = 4) := by rw [HE.out, if_pos (Or.inl ha0)]; rfl
     clear HE
     go_wp2
     go_ret
     exact ⟨ret_int HX.out.symm, HB1.out⟩
   · by_cases hs0 : s < 0
     · have HX : Hid (R = 4) := by rw [HE.out, if_pos (Or.inr (Or.inl hs0))]; rfl
       clear HE
       go_wp2
       go_ret
       exact ⟨ret_int HX.out.symm, HB1.out⟩
     · have hw := wrap_id (x := ins - a) (by have := HW.out.2; omega) (by omega)
       by_cases hsum : a + s = ins
       · have hne : (s != ins - a) = false := by simp; omega
         rw [if_neg (by omega)] at HE
         by_cases hi : (il.length : Int) = s
         · by_cases hn : (nl.length : Int) = s
           · rw [if_neg (by omega)] at HE
             have hi' : ((il.length : Int) != s) = false := by simpa using hi
             have hn' : ((nl.length : Int) != s) = false := by simpa using hn
             have HCF := hide (containsFunc_any 25 (.pointer (some ⟨w.heap.size, 0, none⟩)) (badI (2 * (1 + ins + ps.length))) il ia ic w1 (by unfold maxLen; omega) (HK.out.i.later HB1.out) enter25 (fun wq hb j hj => checkB1_any _ ins p ps.length cap h0 h1 (by omega) w.heap.size wq (cell_later hb q0) (cell_later hb q1)))
             have HH := hide (fun (l : List Int) (q : Option Addr) (qc : Nat) (hl : l.length ≤ maxLen) (w' : World) (hI : IntsAt w' q l) => has_any ins p ps.length cap h0 h1 (by omega) l q qc hl w' hI)
             clear hi hn
             cases h3 : il.any (badI (2 * (1 + ins + ps.length)))
             · rw [h3] at HCF HE
               go_wp2_with fail
               refine HCF.out.mono ?_
               rintro e w2 ⟨rfl, hb2⟩
               have p0 := cell_later hb2 q0
               have p1 := cell_later hb2 q1
               have p5 := cell_later hb2 q5
               have p6 := cell_later hb2 q6
               have p7 := cell_later hb2 q7
               have HB2 := hide (bthen HB1.out hb2)
               clear hb2 q0 q1 q2 q3 q4 q5 q6 q7 HB1 h3 HCF
               go_wp2_with fail
               refine (HH.out nl na nc (by unfold maxLen; omega) _ (HK.out.n.later HB2.out)).mono ?_
               rintro e w3 ⟨rfl, hb3⟩
               have q0 := cell_later hb3 p0
               have q1 := cell_later hb3 p1
               have q6 := cell_later hb3 p6
               have q7 := cell_later hb3 p7
               have HB3 := hide (bthen HB2.out hb3)
               clear hb3 p0 p1 p5 p6 p7 HB2
               cases h4 : nl.any (noLit (2 * (1 + ins + ps.length)))
               · rw [h4] at HE
                 clear h4
                 go_wp2_with fail
                 refine (HH.out bl ba bc (by unfold maxLen; omega) _ (HK.out.b.later HB3.out)).mono ?_
                 rintro e w4 ⟨rfl, hb4⟩
                 have p0 := cell_later hb4 q0
                 have p1 := cell_later hb4 q1
                 have p7 := cell_later hb4 q7
                 have HB4 := hide (bthen HB3.out hb4)
                 clear hb4 q0 q1 q6 q7 HB3
                 cases h5 : bl.any (noLit (2 * (1 + ins + ps.length)))
                 · rw [h5] at HE
                   clear h5
                   go_wp2_with fail
                   refine (HH.out gl ga gc (by unfold maxLen; omega) _ (HK.out.h.later HB4.out)).mono ?_
                   rintro e w5 ⟨rfl, hb5⟩
                   have HB5 := hide (bthen HB4.out hb5)
                   clear hb5 p0 p1 p7 HB4
                   cases h6 : gl.any (noLit (2 * (1 + ins + ps.length)))
                   · have HX : Hid (R = 0) := by rw [HE.out, h6]; rfl
                     clear HE h6
                     go_wp2
                     go_ret
                     exact ⟨ret_int HX.out.symm, HB5.out⟩
                   · have HX : Hid (R = 5) := by rw [HE.out, h6]; rfl
                     clear HE h6
                     go_wp2
                     go_ret
                     exact ⟨ret_int HX.out.symm, HB5.out⟩
                 · have HX : Hid (R = 5) := by rw [HE.out, h5]; rfl
                   clear HE h5
                   go_wp2
                   go_ret
                   exact ⟨ret_int HX.out.symm, HB4.out⟩
               · have HX : Hid (R = 5) := by rw [HE.out, h4]; rfl
                 clear HE h4
                 go_wp2
                 go_ret
                 exact ⟨ret_int HX.out.symm, HB3.out⟩
             · rw [h3] at HCF
               have HX : Hid (R = 5) := by rw [HE.out, h3]; rfl
               clear HE h3
               go_wp2_with fail
               refine HCF.out.mono ?_
               rintro e w2 ⟨rfl, hb2⟩
               have HB2 := hide (bthen HB1.out hb2)
               clear hb2 HB1
               go_wp2
               go_ret
               exact ⟨ret_int HX.out.symm, HB2.out⟩
           · have HX : Hid (R = 1) := by rw [HE.out, if_pos (Or.inr (by simpa using hn))]; rfl
             have hi' : ((il.length : Int) != s) = false := by simpa using hi
             have hn' : ((nl.length : Int) != s) = true := by simpa using hn
             clear HE hi hn
             go_wp2
             go_ret
             exact ⟨ret_int HX.out.symm, HB1.out⟩
         · have HX : Hid (R = 1) := by rw [HE.out, if_pos (Or.inl (by simpa using hi))]; rfl
           have hi' : ((il.length : Int) != s) = true := by simpa using hi
           clear HE hi
           go_wp2
           go_ret
           exact ⟨ret_int HX.out.symm, HB1.out⟩
       · have HX : Hid (R = 4) := by rw [HE.out, if_pos (Or.inr (Or.inr hsum))]; rfl
         have hne : (s != ins - a) = true := by simp; omega
         clear HE hsum
         go_wp2
         go_ret
         exact ⟨ret_int HX.out.symm, HB1.out⟩
 · have hne : (chkE ins ps != 0) = true := by simpa using hc
   have HE : Hid (cirE ins ps a s i.ns n.ns b.ns h.ns = chkE ins ps) := by unfold cirE; rw [if_pos hc]; rfl
   clear hc
   generalize chkE ins ps = Z at *
   generalize cirE ins ps a s i.ns n.ns b.ns h.ns = R at *
   go_enter Tryz.func6, Tryz.ntmps6
   go_wp2_with fail
   refine HC.out.mono ?_
   rintro e w1 ⟨rfl, hb1⟩
   have HB1 := hide (bthen hB0 hb1)
   clear hb1 hB0 HC
   go_wp2
   go_ret
   exact ⟨ret_int HE.out.symm, HB1.out⟩
end Go.Proofs.YtabnimgpednhjabGreat.Gg
