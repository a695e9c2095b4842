/- Gates: a graph that passes goes on passing, and tells the same: plain. -/
import Derived.Test.YtkinmangilbeeaaGreatDoorGoM
import Derived.Test.YtkinmangilbeeaaGreatDoorGeM
namespace Go.Proofs.YtkinmangilbeeaaGreatDoor

theorem andAt_app (ps : List (Int × Int)) (p : Int × Int) (k : Nat) (h : k ≤ ps.length) (x : Int × Int) : andAt (ps ++ [p]) k x = andAt ps k x := by
  unfold andAt
  rw [List.take_append_of_le_length h]
theorem getD_app (ps : List (Int × Int)) (p : Int × Int) (k : Nat) (h : k < ps.length) : (ps ++ [p])[k]? = ps[k]? := List.getElem?_append_left h
theorem stN_app (ins : Int) (ps : List (Int × Int)) (p : Int × Int) (k : Nat) (h : k ≤ ps.length) : stN ins (ps ++ [p]) k = stN ins ps k := by
  induction k with
  | zero => rfl
  | succ k ih => simp only [stN]; rw [ih (by omega), getD_app ps p k (by omega)]
theorem dupN_app (ps : List (Int × Int)) (p : Int × Int) (k : Nat) (h : k ≤ ps.length) : dupN (ps ++ [p]) k = dupN ps k := by
  induction k with
  | zero => rfl
  | succ k ih =>
    simp only [dupN]
    rw [ih (by omega), getD_app ps p k (by omega)]
    cases ps[k]? with
    | none => rfl
    | some q => simp only []; rw [andAt_app ps p k (by omega)]
theorem nodesV_app (bs : List Bool) (ps : List (Int × Int)) (p : Int × Int) (k : Nat) (h : k ≤ ps.length) : nodesV bs (ps ++ [p]) k = nodesV bs ps k := by
  induction k with
  | zero => rfl
  | succ k ih => simp only [nodesV]; rw [ih (by omega), getD_app ps p k (by omega)]
theorem nodesV_pre (bs : List Bool) (ps : List (Int × Int)) {i k : Nat} (h : i ≤ k) : ∃ t, nodesV bs ps k = nodesV bs ps i ++ t := by
  induction k with
  | zero => obtain rfl : i = 0 := by omega
            exact ⟨[], by simp⟩
  | succ k ih =>
    by_cases e : i = k + 1
    · subst e; exact ⟨[], by simp⟩
    · obtain ⟨t, ht⟩ := ih (by omega)
      simp only [nodesV]
      rw [ht, List.append_assoc]
      exact ⟨_, rfl⟩
theorem litV_app (v t : List Bool) (x : Int) (h0 : 0 ≤ x) (hx : x < 2 * v.length) : litV (v ++ t) x = litV v x := by
  unfold litV
  congr 1
  rw [List.getD_eq_getElem?_getD, List.getD_eq_getElem?_getD, List.getElem?_append_left (by omega)]

theorem chk_keep {ins : Int} {ps : List (Int × Int)} (hc : chkE ins ps = 0) {x y : Int} (hx : 0 ≤ x) (hxy : x ≤ y) (hy : y < 2 * (1 + ins + ps.length)) (hok : makOk ps x y = true) : chkE ins (makPs ps x y) = 0 := by
  obtain ⟨h0, h1, hlen, hst, hd⟩ := chk_zero hc
  by_cases c1 : x = 0 ∨ x = turn y
  · rw [(mak_no (ins := ins) c1).2.2]; exact hc
  by_cases c2 : x = 1 ∨ x = y
  · rw [(mak_one (ins := ins) c1 c2).2.2]; exact hc
  rw [(mak_add (ins := ins) c1 c2).2.1] at hok
  rw [(mak_add (ins := ins) c1 c2).2.2]
  unfold addPs
  by_cases c3 : 0 ≤ andAt ps ps.length (x, y)
  · rw [if_pos c3]; exact hc
  have c4 : ps.length < 1000000 := by simpa [addOk, c3] using hok
  rw [if_neg c3, if_neg (by omega)]
  have hlast : (ps ++ [(x, y)])[ps.length]? = some (x, y) := by simp
  have c5 : ¬ x / 2 = y / 2 := fun h => c1 (Or.inr (turn_iff.2 ⟨h, fun e => c2 (Or.inr e)⟩))
  refine chk_ok (btw_true.2 ⟨h0, h1⟩) (by simp; omega) ?_ ?_
  · rw [List.length_append]
    show stN ins (ps ++ [(x, y)]) (ps.length + 1) = true
    simp only [stN]
    rw [stN_app ins ps _ _ (Nat.le_refl _), hst, hlast]
    simp [standB]
    omega
  · rw [List.length_append]
    show dupN (ps ++ [(x, y)]) (ps.length + 1) = false
    simp only [dupN]
    rw [dupN_app ps _ _ (Nat.le_refl _), hd, hlast]
    simp only []
    rw [andAt_app ps _ _ (Nat.le_refl _)]
    simpa using c3

theorem len_keep (ps : List (Int × Int)) (x y : Int) : ps.length ≤ (makPs ps x y).length := by
  unfold makPs addPs
  split
  · omega
  split
  · omega
  split
  · omega
  split
  · omega
  · simp

theorem nodes_keep (bs : List Bool) (ps : List (Int × Int)) (x y : Int) : ∃ t, nodesV bs (makPs ps x y) (makPs ps x y).length = nodesV bs ps ps.length ++ t := by
  unfold makPs addPs
  split
  · exact ⟨[], by simp⟩
  split
  · exact ⟨[], by simp⟩
  split
  · exact ⟨[], by simp⟩
  split
  · exact ⟨[], by simp⟩
  · rw [List.length_append]
    show ∃ t, nodesV bs (ps ++ [(x, y)]) (ps.length + 1) = _
    simp only [nodesV]
    rw [nodesV_app bs ps _ _ (Nat.le_refl _)]
    exact ⟨_, rfl⟩

theorem litV_zero (bs : List Bool) (ps : List (Int × Int)) (k : Nat) : litV (nodesV bs ps k) 0 = false ∧ litV (nodesV bs ps k) 1 = true := by
  obtain ⟨t, ht⟩ := nodesV_pre bs ps (Nat.zero_le k)
  rw [ht]
  constructor <;> simp [litV, nodesV, odd]

theorem litV_turn (v : List Bool) (y : Int) : litV v (turn y) = !litV v y := by
  unfold litV turn
  cases ho : odd y
  · have e : y % 2 = 0 := by simp [odd] at ho; omega
    simp only [Bool.false_eq_true, if_false]
    have e2 : odd (y + 1) = true := by simp [odd]; omega
    have e3 : (y + 1) / 2 = y / 2 := by omega
    rw [e2, e3]
    cases v.getD (y / 2).toNat false <;> rfl
  · have e : y % 2 = 1 := by simpa [odd] using ho
    simp only [if_true]
    have e2 : odd (y - 1) = false := by simp [odd]; omega
    have e3 : (y - 1) / 2 = y / 2 := by omega
    rw [e2, e3]
    cases v.getD (y / 2).toNat false <;> rfl

theorem andAt_is {ps : List (Int × Int)} {n : Nat} {x : Int × Int} (h : 0 ≤ andAt ps n x) : ∃ i : Nat, andAt ps n x = i ∧ ∃ (hi : i < ps.length), i < n ∧ ps[i] = x := by
  unfold andAt at *
  cases e : (ps.take n).findIdx? (· == x) with
  | none => rw [e] at h; simp at h
  | some i =>
    rw [List.findIdx?_eq_some_iff_getElem] at e
    obtain ⟨h1, h2, _⟩ := e
    rw [List.length_take] at h1
    rw [List.getElem_take] at h2
    exact ⟨i, rfl, by omega, by omega, by simpa using h2⟩

theorem lit_even (v : List Bool) (n : Nat) (h : n < v.length) : litV v (2 * (n : Int)) = v[n] := by
  unfold litV
  have e1 : odd (2 * (n : Int)) = false := by simp [odd]
  have e2 : (2 * (n : Int)) / 2 = n := by omega
  rw [e1, e2, Int.toNat_natCast, getD_bools h]
  cases v[n] <;> rfl

theorem node_is (bs : List Bool) (ps : List (Int × Int)) (hst : stN bs.length ps ps.length = true) (i : Nat) (hi : i < ps.length) :
    litV (nodesV bs ps ps.length) (2 * (1 + (bs.length : Int) + i)) = (litV (nodesV bs ps ps.length) ps[i].1 && litV (nodesV bs ps ps.length) ps[i].2) := by
  have hs : standB ps[i].1 ps[i].2 (1 + bs.length + i) = true := by
    have := stN_down (k := i + 1) hst (by omega)
    rw [stN_succ hi, Bool.and_eq_true] at this
    exact this.2
  obtain ⟨a0, a1, b0, b1⟩ := stand_bd hs
  have hl := nodesV_len bs ps i
  obtain ⟨t, ht⟩ := nodesV_pre bs ps (show i + 1 ≤ ps.length by omega)
  rw [ht, nodesV_succ hi, List.append_assoc]
  have e : (2 * (1 + (bs.length : Int) + i)) = 2 * ((1 + bs.length + i : Nat) : Int) := by omega
  rw [e, lit_even _ _ (by simp [hl]), litV_app _ _ _ a0 (by rw [hl]; omega), litV_app _ _ _ b0 (by rw [hl]; omega)]
  rw [List.getElem_append_right (by omega)]
  simp [hl]

theorem keep_lit (ps : List (Int × Int)) (bs : List Bool) (hc : chkE bs.length ps = 0) {x y : Int} (hx : 0 ≤ x) (hxy : x ≤ y) (hy : y < 2 * (1 + (bs.length : Int) + ps.length)) (hok : makOk ps x y = true) :
    litV (nodesV bs (makPs ps x y) (makPs ps x y).length) (makLit bs.length ps x y) = (litV (nodesV bs ps ps.length) x && litV (nodesV bs ps ps.length) y) := by
  obtain ⟨h0, h1, hlen, hst, hd⟩ := chk_zero hc
  by_cases c1 : x = 0 ∨ x = turn y
  · rw [(mak_no (ins := bs.length) c1).1, (mak_no (ins := bs.length) c1).2.2, (litV_zero bs ps _).1]
    rcases c1 with c1 | c1
    · rw [c1, (litV_zero bs ps _).1]; rfl
    · rw [c1, litV_turn _ _]; cases litV (nodesV bs ps ps.length) y <;> rfl
  by_cases c2 : x = 1 ∨ x = y
  · rw [(mak_one (ins := bs.length) c1 c2).1, (mak_one (ins := bs.length) c1 c2).2.2]
    rcases c2 with c2 | c2
    · rw [c2, (litV_zero bs ps _).2]; rfl
    · rw [c2]; cases litV (nodesV bs ps ps.length) y <;> rfl
  rw [(mak_add (ins := bs.length) c1 c2).2.1] at hok
  have hk := chk_keep hc hx hxy hy (by rw [(mak_add (ins := bs.length) c1 c2).2.1]; exact hok)
  rw [(mak_add (ins := bs.length) c1 c2).2.2] at hk ⊢
  rw [(mak_add (ins := bs.length) c1 c2).1]
  unfold addPs addLit at *
  by_cases c3 : 0 ≤ andAt ps ps.length (x, y)
  · rw [if_pos c3, if_pos c3]
    obtain ⟨i, e1, hi, _, e2⟩ := andAt_is c3
    rw [e1, node_is bs ps hst i hi, e2]
  have c4 : ps.length < 1000000 := by simpa [addOk, c3] using hok
  rw [if_neg c3, if_neg (by omega)] at hk ⊢
  rw [if_neg c3, if_neg (by omega)]
  obtain ⟨_, _, _, hst2, _⟩ := chk_zero hk
  have := node_is bs (ps ++ [(x, y)]) hst2 ps.length (by simp)
  rw [this, List.getElem_append_right (Nat.le_refl _)]
  simp only [Nat.sub_self, List.getElem_cons_zero]
  have hl := nodesV_len bs ps ps.length
  have hn : nodesV bs (ps ++ [(x, y)]) (ps ++ [(x, y)]).length = nodesV bs ps ps.length ++ [litV (nodesV bs ps ps.length) x && litV (nodesV bs ps ps.length) y] := by
    rw [List.length_append]
    show nodesV bs (ps ++ [(x, y)]) (ps.length + 1) = _
    rw [nodesV_succ (by simp), nodesV_app bs ps _ _ (Nat.le_refl _), List.getElem_append_right (Nat.le_refl _)]
    simp
  rw [hn, litV_app _ _ x hx (by rw [hl]; omega), litV_app _ _ y (by omega) (by rw [hl]; omega)]

theorem lit_keep_bd {ins : Int} {ps : List (Int × Int)} (h0 : 0 ≤ ins) {x y : Int} (hx : 0 ≤ x) (hxy : x ≤ y) (hy : y < 2 * (1 + ins + ps.length)) (hok : makOk ps x y = true) : 0 ≤ makLit ins ps x y ∧ makLit ins ps x y < 2 * (1 + ins + (makPs ps x y).length) := by
  by_cases c1 : x = 0 ∨ x = turn y
  · rw [(mak_no (ins := ins) c1).1, (mak_no (ins := ins) c1).2.2]; omega
  by_cases c2 : x = 1 ∨ x = y
  · rw [(mak_one (ins := ins) c1 c2).1, (mak_one (ins := ins) c1 c2).2.2]; omega
  rw [(mak_add (ins := ins) c1 c2).2.1] at hok
  rw [(mak_add (ins := ins) c1 c2).1, (mak_add (ins := ins) c1 c2).2.2]
  unfold addPs addLit
  by_cases c3 : 0 ≤ andAt ps ps.length (x, y)
  · rw [if_pos c3, if_pos c3]
    obtain ⟨i, e1, hi, _⟩ := andAt_is c3
    rw [e1]; omega
  have c4 : ps.length < 1000000 := by simpa [addOk, c3] using hok
  rw [if_neg c3, if_neg c3, if_neg (by omega), if_neg (by omega), List.length_append]
  simp
  omega

theorem ande_zero {ins : Int} {ps : List (Int × Int)} {a b : Int} (h : andE ins ps a b = 0) : chkE ins ps = 0 ∧ 0 ≤ a ∧ a < 2 * (1 + ins + ps.length) ∧ 0 ≤ b ∧ b < 2 * (1 + ins + ps.length) ∧ andOk ps a b = true := by
  unfold andE at h
  by_cases c : chkE ins ps = 0
  · rw [if_neg (by simpa using c)] at h
    split at h
    · cases h
    rename_i c2
    split at h
    · cases h
    rename_i c3
    have c2' : [a, b].any (noLit (2 * (1 + ins + ps.length))) = false := by simpa using c2
    rw [two_any, Bool.or_eq_false_iff] at c2'
    simp [noLit] at c2'
    exact ⟨c, by omega, by omega, by omega, by omega, by simpa using c3⟩
  · rw [if_pos c] at h; exact absurd h c

end Go.Proofs.YtkinmangilbeeaaGreatDoor

namespace Go.Proofs.YtkinmangilbeeaaGreatDoor
open Go.RowKit Go.Maps Go.WideMaps
set_option maxRecDepth 100000

theorem lits_any (e : Int) (ls : List Int) : ls.all (isLit e) = !ls.any (noLit e) := by
  induction ls with
  | nil => rfl
  | cons a l ih => simp only [List.all_cons, List.any_cons, ih, isLit]; cases noLit e a <;> simp
theorem nil_bools {w : World} {p : Option Addr} : BoolsAt w p [] := fun h => by simp at h
theorem dec_self (l : List Bool) : decide (l = l) = true := by simp

end Go.Proofs.YtkinmangilbeeaaGreatDoor

namespace Go.Proofs.YtkinmangilbeeaaGreatDoor
open Go.RowKit Go.Maps Go.WideMaps
set_option maxRecDepth 100000

theorem wfp_nil : WfP [] := fun i h => by simp at h
theorem nil_pairs {w : World} {p : Option Addr} : PairsAt w p [] := fun h => by simp at h
theorem sameG_self (i : Int) (ps : List (Int × Int)) : sameG i i ps ps = true := by simp [sameG]

theorem set2_far {w : World} {B : Nat} {u1 u2 x : Value} {q : Addr} (h : w.cell? q = some x) (hne : q.block ≠ B) : ((w.setCell ⟨B, 0, none⟩ u1).setCell ⟨B, 1, none⟩ u2).cell? q = some x := cell_set_far (cell_set_far h hne) hne
theorem set2_at0 {w : World} {B : Nat} {u1 u2 x : Value} (h : w.cell? ⟨B, 0, none⟩ = some x) : ((w.setCell ⟨B, 0, none⟩ u1).setCell ⟨B, 1, none⟩ u2).cell? ⟨B, 0, none⟩ = some u1 := by
  rw [World.cell?_setCell_other _ _ _ _ (by simp)]; exact World.cell?_setCell_same w _ _ h
theorem set2_at1 {w : World} {B : Nat} {u1 u2 x : Value} (h : w.cell? ⟨B, 1, none⟩ = some x) : ((w.setCell ⟨B, 0, none⟩ u1).setCell ⟨B, 1, none⟩ u2).cell? ⟨B, 1, none⟩ = some u2 := by
  refine World.cell?_setCell_same _ _ _ (u := x) ?_
  rw [World.cell?_setCell_other w _ _ _ (by simp)]; exact h
theorem set2_below {w0 w : World} {B : Nat} {u1 u2 : Value} (h : Below w0.heap.size w0 w) (hB : w0.heap.size ≤ B) : Below w0.heap.size w0 ((w.setCell ⟨B, 0, none⟩ u1).setCell ⟨B, 1, none⟩ u2) := (h.setCell hB u1).setCell hB u2
theorem wf_ref {ps : List (Int × Int)} (h : WfP ps) (x y : Int) (hx : Wf x) (hy : Wf y) : WfP (refPs ps x y) := by
  unfold refPs
  split
  · exact h
  split
  · exact h
  split
  · exact h
  intro i hi
  rw [List.length_append] at hi
  by_cases e : i < ps.length
  · rw [List.getElem_append_left e]; exact h i e
  · rw [List.getElem_append_right (by omega)]
    simp at hi
    obtain rfl : i = ps.length := by omega
    simp
    exact ⟨hx, hy⟩

end Go.Proofs.YtkinmangilbeeaaGreatDoor

namespace Go.Proofs.YtkinmangilbeeaaGreatDoor
open Go.RowKit Go.Maps Go.WideMaps
set_option maxRecDepth 100000

theorem drewN_add (w : World) (n m : Nat) : (w.drewN n).drewN m = w.drewN (n + m) := by simp

end Go.Proofs.YtkinmangilbeeaaGreatDoor

namespace Go.Proofs.YtkinmangilbeeaaGreatDoor
open Go.RowKit Go.Maps Go.WideMaps
set_option maxRecDepth 100000

theorem info3 : (Tryz.prog.info? 3).map (fun i => (i.zero, i.size, i.bytes)) = some (some (.int .i64 0), 1, 8) := by kernel_rfl
theorem owns_ints {w : World} {base : Nat} {v : Value} {l : List Int} (h : w.ownsRow base 3 1 v l.length (l.map (Value.int .i64))) : ∃ p cap, v = .slice p l.length cap ∧ IntsAt w p l ∧ (p = none → cap = 0) := by
  have h3 := h
  obtain ⟨h1, h2⟩ := h
  rcases h2 with ⟨rfl, h0⟩ | ⟨g, cap, cur, rfl, hg, hh, hn, hm, hs, ht⟩
  · exact ⟨none, 0, by rw [h0], fun h => by omega, fun _ => rfl⟩
  · refine ⟨_, cap, rfl, fun _ => ⟨g, 0, rfl, fun i hi => ?_⟩, fun h => by cases h⟩
    have := h3.cellAt i (by omega)
    rw [Nat.zero_add, this, List.getElem?_map, List.getElem?_eq_getElem hi]
    rfl
theorem ints_cells {w : World} {l : List Int} {ad : Addr} (h : IntsAt w (some ad) l) : ∀ j u, (l.map (Value.int .i64))[j]? = some u → w.cell? (ad.add j) = some u := by
  intro j u hj
  obtain ⟨hjl, hju⟩ := List.getElem?_eq_some_iff.1 hj
  have hjl' : j < l.length := by simpa using hjl
  obtain ⟨b, off, h, hc⟩ := h (by omega)
  cases h
  rw [Addr.add_lit, hc j hjl', ← hju]
  simp

theorem wp_append_ints {w : World} {o : Oper} {a : Act} {K : Act → World → Prop} {Q : Exit → Act → World → Prop} (s x : Operand)
    (ho : o.op = .call { callee := .builtin .append, args := #[s, x], argTypes := #[38, 38] })
    (base : Nat) (v : Value) (u l : List Int) (hs : a.eval s = v) (hown : w.ownsRow base 3 1 v u.length (u.map (Value.int .i64))) (p : Option Addr) (c : Nat) (hx : a.eval x = .slice p l.length c) (hB : IntsAt w p l) (hnil : p = none → c = 0)
    (hb : u.length + l.length ≤ 17592186044416) (hbase : base ≤ w.heap.size)
    (hK : ∀ v' w', w'.ownsRow base 3 1 v' (u ++ l).length ((u ++ l).map (Value.int .i64)) → w.grownBy w' v.ownBlock → K (a.put o.dst v') w') : o.wp Tryz.prog a w K Q := by
  obtain ⟨i0, hi, hz0, hz1, hz2⟩ := info_parts info3
  cases p with
  | none =>
    have h0 : l = [] := by
      cases l with
      | nil => rfl
      | cons a t => obtain ⟨b, off, h, _⟩ := hB (by simp); cases h
    subst h0
    obtain rfl := hnil rfl
    have hrun := run_append_owned_none (P := Tryz.prog) (w := w) base 38 o.type 3 i0 1 Tryz.underlying38 hi v u.length _ hown
    unfold Oper.wp
    simp only [List.length_nil] at hx
    simp [execOp, ho, resolve, invoke, builtin, hs, hx, hrun, Result.andThen]
    exact hK v w (by simpa using hown) ⟨rfl, rfl, rfl, Nat.le_refl _, fun _ _ _ => rfl⟩
  | some ad =>
    refine wp_append_own w s x 38 ho base 3 i0 (.int .i64 0) 1 8 Tryz.underlying38 hi hz0 hz1 hz2 rfl (by decide) v u.length _ hs hown ad l.length c (l.map (Value.int .i64)) hx (by simp) (ints_cells hB) ?_ (by unfold maxLen; omega) (by omega) hbase (fun v' w' a b _ => hK v' w' (by simpa using a) b)
    intro u hu
    obtain ⟨x, _, rfl⟩ := List.mem_map.1 hu
    rfl

theorem wpList_append_ints {w : World} {ops : Array Oper} {rest : List Oper} {o : Oper} {a : Act} {Q : Exit → Act → World → Prop} (hgd : o.guard = none) (s x : Operand)
    (ho : o.op = .call { callee := .builtin .append, args := #[s, x], argTypes := #[38, 38] })
    (base : Nat) (v : Value) (u l : List Int) (hs : a.eval s = v) (hown : w.ownsRow base 3 1 v u.length (u.map (Value.int .i64))) (p : Option Addr) (c : Nat) (hx : a.eval x = .slice p l.length c) (hB : IntsAt w p l) (hnil : p = none → c = 0)
    (hb : u.length + l.length ≤ 17592186044416) (hbase : base ≤ w.heap.size)
    (hK : ∀ v' w', w'.ownsRow base 3 1 v' (u ++ l).length ((u ++ l).map (Value.int .i64)) → w.grownBy w' v.ownBlock → wpList Tryz.prog ops Q rest (a.put o.dst v') w') : wpList Tryz.prog ops Q (o :: rest) a w :=
  wpList_plain hgd fun _ hK' => wp_append_ints s x ho base v u l hs hown p c hx hB hnil hb hbase fun v' w' h1 h2 => hK' _ _ (hK v' w' h1 h2)

theorem step_append_ints {w : World} {ops : Array Oper} {o : Oper} {a : Act} {K : Act → World → Prop} {Q : Exit → Act → World → Prop} {E : Prop} (hgd : o.guard = none) (s x : Operand)
    (ho : o.op = .call { callee := .builtin .append, args := #[s, x], argTypes := #[38, 38] })
    (base : Nat) (v : Value) (u l : List Int) (hs : a.eval s = v) (hown : w.ownsRow base 3 1 v u.length (u.map (Value.int .i64))) (p : Option Addr) (c : Nat) (hx : a.eval x = .slice p l.length c) (hB : IntsAt w p l) (hnil : p = none → c = 0)
    (hb : u.length + l.length ≤ 17592186044416) (hbase : base ≤ w.heap.size)
    (hK : ∀ v' w', w'.ownsRow base 3 1 v' (u ++ l).length ((u ++ l).map (Value.int .i64)) → w.grownBy w' v.ownBlock → K (a.put o.dst v') w') :
    if Region.wanted o (yielded ops a.tmps) = true then Oper.wp Tryz.prog o a w K Q else E := by
  have hw : Region.wanted o (yielded ops a.tmps) = true := by simp [Region.wanted, hgd]
  rw [if_pos hw]
  exact wp_append_ints s x ho base v u l hs hown p c hx hB hnil hb hbase hK

theorem ints_one {w : World} (x : Int) : IntsAt (w.alloc (.cells #[.int .i64 x] 3)) (some ⟨w.heap.size, 0, none⟩) [x] := fun _ => ⟨w.heap.size, 0, rfl, fun i hi => by
  match i, hi with
  | 0, _ => simp [go_sem]⟩

theorem owns_intsN {w : World} {base n : Nat} {v : Value} {l : List Int} (hn : l.length = n) (h : w.ownsRow base 3 1 v n (l.map (Value.int .i64))) : ∃ p cap, v = .slice p n cap ∧ IntsAt w p l ∧ (p = none → cap = 0) := by
  subst hn; exact owns_ints h
theorem IntsAt.grown {w w1 : World} {row : Option Nat} {b : Nat} {l : List Int} (h : IntsAt w (some ⟨b, 0, none⟩) l) (hg : w.grownBy w1 row) (hne : some b ≠ row) : IntsAt w1 (some ⟨b, 0, none⟩) l := by
  intro h0
  obtain ⟨b', o', e, hc⟩ := h h0
  cases e
  exact ⟨b, 0, rfl, fun i hi => hg.cell (hc i hi) hne⟩

/-- The first numbers. -/
def upto (k : Nat) : List Int := (List.range k).map (fun i : Nat => (i : Int))
theorem upto_succ (k : Nat) : upto (k + 1) = upto k ++ [(k : Int)] := by simp [upto, List.range_succ]
theorem upto_len (k : Nat) : (upto k).length = k := by simp [upto]
theorem upto_no (k : Nat) (e : Int) (h : (k : Int) ≤ e) : (upto k).any (noLit e) = false := by
  rw [List.any_eq_false]
  intro x hx
  obtain ⟨i, hi, rfl⟩ := List.mem_map.1 hx
  have := List.mem_range.1 hi
  simp [noLit]
  omega

end Go.Proofs.YtkinmangilbeeaaGreatDoor
