/- Gates: a graph that passes goes on passing, and tells the same: plain. -/
import Derived.Test.YtjhkecnnhddhbaaGreatDoorGo
namespace Go.Proofs.YtjhkecnnhddhbaaGreatDoor

theorem andAt_app (ps : List (Int × Int)) (p : Int × Int) (k : Nat) (h : k ≤ ps.length) (x : Int × Int) : andAt (ps ++ [p]) k x = andAt ps k x := by
  unfold andAt
  rw [List.take_append_of_le_length h]
theorem getD_app (ps : List (Int × Int)) (p : Int × Int) (k : Nat) (h : k < ps.length) : (ps ++ [p])[k]? = ps[k]? := List.getElem?_append_left h
theorem stN_app (ins : Int) (ps : List (Int × Int)) (p : Int × Int) (k : Nat) (h : k ≤ ps.length) : stN ins (ps ++ [p]) k = stN ins ps k := by
  induction k with
  | zero => rfl
  | succ k ih => simp only [stN]; rw [ih (by omega), getD_app ps p k (by omega)]
theorem dupN_app (ps : List (Int × Int)) (p : Int × Int) (k : Nat) (h : k ≤ ps.length) : dupN (ps ++ [p]) k = dupN ps k := by
  induction k with
  | zero => rfl
  | succ k ih =>
    simp only [dupN]
    rw [ih (by omega), getD_app ps p k (by omega)]
    cases ps[k]? with
    | none => rfl
    | some q => simp only []; rw [andAt_app ps p k (by omega)]
theorem nodesV_app (bs : List Bool) (ps : List (Int × Int)) (p : Int × Int) (k : Nat) (h : k ≤ ps.length) : nodesV bs (ps ++ [p]) k = nodesV bs ps k := by
  induction k with
  | zero => rfl
  | succ k ih => simp only [nodesV]; rw [ih (by omega), getD_app ps p k (by omega)]
theorem nodesV_pre (bs : List Bool) (ps : List (Int × Int)) {i k : Nat} (h : i ≤ k) : ∃ t, nodesV bs ps k = nodesV bs ps i ++ t := by
  induction k with
  | zero => obtain rfl : i = 0 := by omega
            exact ⟨[], by simp⟩
  | succ k ih =>
    by_cases e : i = k + 1
    · subst e; exact ⟨[], by simp⟩
    · obtain ⟨t, ht⟩ := ih (by omega)
      simp only [nodesV]
      rw [ht, List.append_assoc]
      exact ⟨_, rfl⟩
theorem litV_app (v t : List Bool) (x : Int) (h0 : 0 ≤ x) (hx : x < 2 * v.length) : litV (v ++ t) x = litV v x := by
  unfold litV
  congr 1
  rw [List.getD_eq_getElem?_getD, List.getD_eq_getElem?_getD, List.getElem?_append_left (by omega)]

theorem chk_keep {ins : Int} {ps : List (Int × Int)} (hc : chkE ins ps = 0) {x y : Int} (hx : 0 ≤ x) (hxy : x ≤ y) (hy : y < 2 * (1 + ins + ps.length)) (hok : makOk ps x y = true) : chkE ins (makPs ps x y) = 0 := by
  obtain ⟨h0, h1, hlen, hst, hd⟩ := chk_zero hc
  by_cases c1 : x = 0 ∨ x = turn y
  · rw [(mak_no (ins := ins) c1).2.2]; exact hc
  by_cases c2 : x = 1 ∨ x = y
  · rw [(mak_one (ins := ins) c1 c2).2.2]; exact hc
  rw [(mak_add (ins := ins) c1 c2).2.1] at hok
  rw [(mak_add (ins := ins) c1 c2).2.2]
  unfold addPs
  by_cases c3 : 0 ≤ andAt ps ps.length (x, y)
  · rw [if_pos c3]; exact hc
  have c4 : ps.length < 1000000 := by simpa [addOk, c3] using hok
  rw [if_neg c3, if_neg (by omega)]
  have hlast : (ps ++ [(x, y)])[ps.length]? = some (x, y) := by simp
  have c5 : ¬ x / 2 = y / 2 := fun h => c1 (Or.inr (turn_iff.2 ⟨h, fun e => c2 (Or.inr e)⟩))
  refine chk_ok (btw_true.2 ⟨h0, h1⟩) (by simp; omega) ?_ ?_
  · rw [List.length_append]
    show stN ins (ps ++ [(x, y)]) (ps.length + 1) = true
    simp only [stN]
    rw [stN_app ins ps _ _ (Nat.le_refl _), hst, hlast]
    simp [standB]
    omega
  · rw [List.length_append]
    show dupN (ps ++ [(x, y)]) (ps.length + 1) = false
    simp only [dupN]
    rw [dupN_app ps _ _ (Nat.le_refl _), hd, hlast]
    simp only []
    rw [andAt_app ps _ _ (Nat.le_refl _)]
    simpa using c3

theorem len_keep (ps : List (Int × Int)) (x y : Int) : ps.length ≤ (makPs ps x y).length := by
  unfold makPs addPs
  split
  · omega
  split
  · omega
  split
  · omega
  split
  · omega
  · simp

theorem nodes_keep (bs : List Bool) (ps : List (Int × Int)) (x y : Int) : ∃ t, nodesV bs (makPs ps x y) (makPs ps x y).length = nodesV bs ps ps.length ++ t := by
  unfold makPs addPs
  split
  · exact ⟨[], by simp⟩
  split
  · exact ⟨[], by simp⟩
  split
  · exact ⟨[], by simp⟩
  split
  · exact ⟨[], by simp⟩
  · rw [List.length_append]
    show ∃ t, nodesV bs (ps ++ [(x, y)]) (ps.length + 1) = _
    simp only [nodesV]
    rw [nodesV_app bs ps _ _ (Nat.le_refl _)]
    exact ⟨_, rfl⟩

theorem litV_zero (bs : List Bool) (ps : List (Int × Int)) (k : Nat) : litV (nodesV bs ps k) 0 = false ∧ litV (nodesV bs ps k) 1 = true := by
  obtain ⟨t, ht⟩ := nodesV_pre bs ps (Nat.zero_le k)
  rw [ht]
  constructor <;> simp [litV, nodesV, odd]

theorem litV_turn (v : List Bool) (y : Int) : litV v (turn y) = !litV v y := by
  unfold litV turn
  cases ho : odd y
  · have e : y % 2 = 0 := by simp [odd] at ho; omega
    simp only [Bool.false_eq_true, if_false]
    have e2 : odd (y + 1) = true := by simp [odd]; omega
    have e3 : (y + 1) / 2 = y / 2 := by omega
    rw [e2, e3]
    cases v.getD (y / 2).toNat false <;> rfl
  · have e : y % 2 = 1 := by simpa [odd] using ho
    simp only [if_true]
    have e2 : odd (y - 1) = false := by simp [odd]; omega
    have e3 : (y - 1) / 2 = y / 2 := by omega
    rw [e2, e3]
    cases v.getD (y / 2).toNat false <;> rfl

theorem andAt_is {ps : List (Int × Int)} {n : Nat} {x : Int × Int} (h : 0 ≤ andAt ps n x) : ∃ i : Nat, andAt ps n x = i ∧ ∃ (hi : i < ps.length), i < n ∧ ps[i] = x := by
  unfold andAt at *
  cases e : (ps.take n).findIdx? (· == x) with
  | none => rw [e] at h; simp at h
  | some i =>
    rw [List.findIdx?_eq_some_iff_getElem] at e
    obtain ⟨h1, h2, _⟩ := e
    rw [List.length_take] at h1
    rw [List.getElem_take] at h2
    exact ⟨i, rfl, by omega, by omega, by simpa using h2⟩

theorem lit_even (v : List Bool) (n : Nat) (h : n < v.length) : litV v (2 * (n : Int)) = v[n] := by
  unfold litV
  have e1 : odd (2 * (n : Int)) = false := by simp [odd]
  have e2 : (2 * (n : Int)) / 2 = n := by omega
  rw [e1, e2, Int.toNat_natCast, getD_bools h]
  cases v[n] <;> rfl

theorem node_is (bs : List Bool) (ps : List (Int × Int)) (hst : stN bs.length ps ps.length = true) (i : Nat) (hi : i < ps.length) :
    litV (nodesV bs ps ps.length) (2 * (1 + (bs.length : Int) + i)) = (litV (nodesV bs ps ps.length) ps[i].1 && litV (nodesV bs ps ps.length) ps[i].2) := by
  have hs : standB ps[i].1 ps[i].2 (1 + bs.length + i) = true := by
    have := stN_down (k := i + 1) hst (by omega)
    rw [stN_succ hi, Bool.and_eq_true] at this
    exact this.2
  obtain ⟨a0, a1, b0, b1⟩ := stand_bd hs
  have hl := nodesV_len bs ps i
  obtain ⟨t, ht⟩ := nodesV_pre bs ps (show i + 1 ≤ ps.length by omega)
  rw [ht, nodesV_succ hi, List.append_assoc]
  have e : (2 * (1 + (bs.length : Int) + i)) = 2 * ((1 + bs.length + i : Nat) : Int) := by omega
  rw [e, lit_even _ _ (by simp [hl]), litV_app _ _ _ a0 (by rw [hl]; omega), litV_app _ _ _ b0 (by rw [hl]; omega)]
  rw [List.getElem_append_right (by omega)]
  simp [hl]

theorem keep_lit (ps : List (Int × Int)) (bs : List Bool) (hc : chkE bs.length ps = 0) {x y : Int} (hx : 0 ≤ x) (hxy : x ≤ y) (hy : y < 2 * (1 + (bs.length : Int) + ps.length)) (hok : makOk ps x y = true) :
    litV (nodesV bs (makPs ps x y) (makPs ps x y).length) (makLit bs.length ps x y) = (litV (nodesV bs ps ps.length) x && litV (nodesV bs ps ps.length) y) := by
  obtain ⟨h0, h1, hlen, hst, hd⟩ := chk_zero hc
  by_cases c1 : x = 0 ∨ x = turn y
  · rw [(mak_no (ins := bs.length) c1).1, (mak_no (ins := bs.length) c1).2.2, (litV_zero bs ps _).1]
    rcases c1 with c1 | c1
    · rw [c1, (litV_zero bs ps _).1]; rfl
    · rw [c1, litV_turn _ _]; cases litV (nodesV bs ps ps.length) y <;> rfl
  by_cases c2 : x = 1 ∨ x = y
  · rw [(mak_one (ins := bs.length) c1 c2).1, (mak_one (ins := bs.length) c1 c2).2.2]
    rcases c2 with c2 | c2
    · rw [c2, (litV_zero bs ps _).2]; rfl
    · rw [c2]; cases litV (nodesV bs ps ps.length) y <;> rfl
  rw [(mak_add (ins := bs.length) c1 c2).2.1] at hok
  have hk := chk_keep hc hx hxy hy (by rw [(mak_add (ins := bs.length) c1 c2).2.1]; exact hok)
  rw [(mak_add (ins := bs.length) c1 c2).2.2] at hk ⊢
  rw [(mak_add (ins := bs.length) c1 c2).1]
  unfold addPs addLit at *
  by_cases c3 : 0 ≤ andAt ps ps.length (x, y)
  · rw [if_pos c3, if_pos c3]
    obtain ⟨i, e1, hi, _, e2⟩ := andAt_is c3
    rw [e1, node_is bs ps hst i hi, e2]
  have c4 : ps.length < 1000000 := by simpa [addOk, c3] using hok
  rw [if_neg c3, if_neg (by omega)] at hk ⊢
  rw [if_neg c3, if_neg (by omega)]
  obtain ⟨_, _, _, hst2, _⟩ := chk_zero hk
  have := node_is bs (ps ++ [(x, y)]) hst2 ps.length (by simp)
  rw [this, List.getElem_append_right (Nat.le_refl _)]
  simp only [Nat.sub_self, List.getElem_cons_zero]
  have hl := nodesV_len bs ps ps.length
  have hn : nodesV bs (ps ++ [(x, y)]) (ps ++ [(x, y)]).length = nodesV bs ps ps.length ++ [litV (nodesV bs ps ps.length) x && litV (nodesV bs ps ps.length) y] := by
    rw [List.length_append]
    show nodesV bs (ps ++ [(x, y)]) (ps.length + 1) = _
    rw [nodesV_succ (by simp), nodesV_app bs ps _ _ (Nat.le_refl _), List.getElem_append_right (Nat.le_refl _)]
    simp
  rw [hn, litV_app _ _ x hx (by rw [hl]; omega), litV_app _ _ y (by omega) (by rw [hl]; omega)]

theorem lit_keep_bd {ins : Int} {ps : List (Int × Int)} (h0 : 0 ≤ ins) {x y : Int} (hx : 0 ≤ x) (hxy : x ≤ y) (hy : y < 2 * (1 + ins + ps.length)) (hok : makOk ps x y = true) : 0 ≤ makLit ins ps x y ∧ makLit ins ps x y < 2 * (1 + ins + (makPs ps x y).length) := by
  by_cases c1 : x = 0 ∨ x = turn y
  · rw [(mak_no (ins := ins) c1).1, (mak_no (ins := ins) c1).2.2]; omega
  by_cases c2 : x = 1 ∨ x = y
  · rw [(mak_one (ins := ins) c1 c2).1, (mak_one (ins := ins) c1 c2).2.2]; omega
  rw [(mak_add (ins := ins) c1 c2).2.1] at hok
  rw [(mak_add (ins := ins) c1 c2).1, (mak_add (ins := ins) c1 c2).2.2]
  unfold addPs addLit
  by_cases c3 : 0 ≤ andAt ps ps.length (x, y)
  · rw [if_pos c3, if_pos c3]
    obtain ⟨i, e1, hi, _⟩ := andAt_is c3
    rw [e1]; omega
  have c4 : ps.length < 1000000 := by simpa [addOk, c3] using hok
  rw [if_neg c3, if_neg c3, if_neg (by omega), if_neg (by omega), List.length_append]
  simp
  omega

theorem ande_zero {ins : Int} {ps : List (Int × Int)} {a b : Int} (h : andE ins ps a b = 0) : chkE ins ps = 0 ∧ 0 ≤ a ∧ a < 2 * (1 + ins + ps.length) ∧ 0 ≤ b ∧ b < 2 * (1 + ins + ps.length) ∧ andOk ps a b = true := by
  unfold andE at h
  by_cases c : chkE ins ps = 0
  · rw [if_neg (by simpa using c)] at h
    split at h
    · cases h
    rename_i c2
    split at h
    · cases h
    rename_i c3
    have c2' : [a, b].any (noLit (2 * (1 + ins + ps.length))) = false := by simpa using c2
    rw [two_any, Bool.or_eq_false_iff] at c2'
    simp [noLit] at c2'
    exact ⟨c, by omega, by omega, by omega, by omega, by simpa using c3⟩
  · rw [if_pos c] at h; exact absurd h c

end Go.Proofs.YtjhkecnnhddhbaaGreatDoor
