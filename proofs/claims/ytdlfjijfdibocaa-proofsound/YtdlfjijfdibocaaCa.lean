/- Clauses of gates: what makes them hold. -/
import Derived.Test.YtdlfjijfdibocaaGtM
namespace Go.Proofs.Ytdlfjijfdibocaa
open Go.RowKit Go.Maps Go.WideMaps
set_option maxRecDepth 100000

/-- The number that stands for a literal. -/
def numL (x : Int) : Int := if odd x = true then -(x / 2) else x / 2
/-- The clauses of an And at a node. -/
def andC (n a b : Int) : List (List Int) := [[-n, numL a], [-n, numL b], [n, -numL a, -numL b]]
/-- The clause of a root. -/
def rootC (x : Int) : List (List Int) := if x = 1 then [] else if x = 0 then [[]] else [[numL x]]
/-- The clauses of the first Ands. -/
def andsC (ins : Int) (ps : List (Int × Int)) : Nat → List (List Int)
  | 0 => []
  | k + 1 => andsC ins ps k ++ (match ps[k]? with | some p => andC (1 + ins + k) p.1 p.2 | none => [])
theorem andsC_succ {ins : Int} {ps : List (Int × Int)} {k : Nat} (h : k < ps.length) : andsC ins ps (k + 1) = andsC ins ps k ++ andC (1 + ins + k) ps[k].1 ps[k].2 := by
  simp [andsC, List.getElem?_eq_getElem h]
/-- Is a number so? -/
def soN (v : List Bool) (n : Int) : Bool := if n < 0 then !v.getD (-n - 1).toNat false else v.getD (n - 1).toNat false
/-- Do all clauses hold? -/
def holdsL (v : List Bool) (L : List (List Int)) : Bool := L.all fun c => c.any (soN v)

theorem soN_neg (v : List Bool) (n : Int) (h : 0 < n) : soN v (-n) = !v.getD (n.toNat - 1) false := by
  unfold soN
  rw [if_pos (by omega), show (-(-n) - 1).toNat = n.toNat - 1 by omega]
theorem soN_pos (v : List Bool) (n : Int) (h : 0 < n) : soN v n = v.getD (n.toNat - 1) false := by
  unfold soN
  rw [if_neg (by omega), show (n - 1).toNat = n.toNat - 1 by omega]
theorem litV_cons (v : List Bool) (x : Int) (h : 2 ≤ x) : litV (false :: v) x = (v.getD ((x / 2).toNat - 1) false != odd x) := by
  unfold litV
  obtain ⟨m, hm⟩ : ∃ m, (x / 2).toNat = m + 1 := ⟨(x / 2).toNat - 1, by omega⟩
  rw [hm]
  simp
theorem so_num (v : List Bool) (x : Int) (h : 2 ≤ x) : soN v (numL x) = litV (false :: v) x ∧ soN v (-numL x) = !litV (false :: v) x := by
  rw [litV_cons v x h]
  unfold numL
  cases ho : odd x
  · rw [if_neg (by decide), soN_pos v _ (by omega), soN_neg v _ (by omega)]
    simp
  · rw [if_pos rfl, Int.neg_neg, soN_neg v _ (by omega), soN_pos v _ (by omega)]
    simp

theorem stand_two {a b n : Int} (h : standB a b n = true) : 2 ≤ a ∧ a < 2 * n ∧ 2 ≤ b ∧ b < 2 * n := by
  simp [standB] at h
  omega

/-- An And's clauses hold just if its node is what both literals say. -/
theorem and_holds (v : List Bool) (n a b : Int) (hn : 0 < n) (ha : 2 ≤ a) (hb : 2 ≤ b) :
    holdsL v (andC n a b) = (v.getD (n.toNat - 1) false == (litV (false :: v) a && litV (false :: v) b)) := by
  obtain ⟨a1, a2⟩ := so_num v a ha
  obtain ⟨b1, b2⟩ := so_num v b hb
  simp only [holdsL, andC, List.all_cons, List.all_nil, List.any_cons, List.any_nil, soN_neg v n hn, soN_pos v n hn, a1, a2, b1, b2]
  cases v.getD (n.toNat - 1) false <;> cases litV (false :: v) a <;> cases litV (false :: v) b <;> rfl

theorem root_holds (v : List Bool) (x : Int) (h : 0 ≤ x) : holdsL v (rootC x) = litV (false :: v) x := by
  unfold rootC
  by_cases h1 : x = 1
  · subst h1; rw [if_pos rfl]; rfl
  · rw [if_neg h1]
    by_cases h0 : x = 0
    · subst h0; rw [if_pos rfl]; rfl
    · rw [if_neg h0]
      simp only [holdsL, List.all_cons, List.all_nil, List.any_cons, List.any_nil, (so_num v x (by omega)).1]
      simp

theorem holdsL_app (v : List Bool) (L M : List (List Int)) : holdsL v (L ++ M) = (holdsL v L && holdsL v M) := by simp [holdsL]

/-- The clauses of Ands hold just if the nodes are what the graph tells by the first values. -/
theorem ands_hold (ps : List (Int × Int)) (v : List Bool) (n : Nat) (hlen : v.length = n + ps.length) (hst : ∀ k (h : k < ps.length), standB ps[k].1 ps[k].2 (1 + n + k) = true) (k : Nat) (hk : k ≤ ps.length) :
    holdsL v (andsC n ps k) = true ↔ nodesV (v.take n) ps k = (false :: v).take (1 + n + k) := by
  induction k with
  | zero =>
    simp [andsC, holdsL, nodesV]
    rw [show 1 + n = n + 1 by omega, List.take_succ_cons]
  | succ k ih =>
    have hk' : k < ps.length := by omega
    have ih := ih (by omega)
    rw [andsC_succ hk', holdsL_app, Bool.and_eq_true, ih]
    obtain ⟨a0, a1, b0, b1⟩ := stand_two (hst k hk')
    rw [and_holds v _ _ _ (by omega) a0 b0, nodesV_succ hk', show 1 + n + (k + 1) = (1 + n + k) + 1 by omega]
    have hin : 1 + n + k < (false :: v).length := by simp; omega
    rw [List.take_succ_eq_append_getElem hin]
    have hlen2 : ((false :: v).take (1 + n + k)).length = 1 + n + k := by rw [List.length_take]; omega
    have e1 : (1 + (n : Int) + k).toNat - 1 = n + k := by omega
    have e2 : (false :: v)[1 + n + k] = v.getD (n + k) false := by
      simp only [show 1 + n + k = (n + k) + 1 by omega, List.getElem_cons_succ]
      simp [List.getD, List.getElem?_eq_getElem (show n + k < v.length by omega)]
    have la : ∀ x : Int, 2 ≤ x → x < 2 * (1 + n + k) → litV (false :: v) x = litV ((false :: v).take (1 + n + k)) x := fun x h1 h2 => by
      conv => lhs; rw [← List.take_append_drop (1 + n + k) (false :: v)]
      exact litV_app _ _ _ (by omega) (by rw [hlen2]; omega)
    rw [e1, e2, la _ a0 (by omega), la _ b0 (by omega)]
    constructor
    · rintro ⟨h1, h2⟩
      rw [h1]
      have := eq_of_beq h2
      rw [this]
    · intro h
      have hl := congrArg List.length h
      have := List.append_inj h (by rw [nodesV_len, hlen2, List.length_take]; omega)
      refine ⟨this.1, ?_⟩
      have h2 := this.2
      rw [this.1] at h2
      simp at h2
      rw [h2]; simp

/-- All clauses of a graph. -/
def cnfC (ins : Int) (ps : List (Int × Int)) (rs : List Int) : List (List Int) := andsC ins ps ps.length ++ rs.flatMap rootC

theorem roots_hold (v : List Bool) (rs : List Int) (h : ∀ x ∈ rs, 0 ≤ x) : holdsL v (rs.flatMap rootC) = rs.all (litV (false :: v)) := by
  induction rs with
  | nil => rfl
  | cons x t ih =>
    rw [List.flatMap_cons, holdsL_app, root_holds v x (h x (by simp)), ih (fun y hy => h y (by simp [hy]))]
    rfl

/-- What the nodes are, but node 0. -/
theorem nodesV_tail (bs : List Bool) (ps : List (Int × Int)) (k : Nat) : ∃ t, nodesV bs ps k = false :: t ∧ t.length = bs.length + k ∧ t.take bs.length = bs := by
  obtain ⟨t, ht⟩ := nodesV_pre bs ps (Nat.zero_le k)
  have hl := nodesV_len bs ps k
  rw [ht] at hl
  simp [nodesV] at hl
  exact ⟨bs ++ t, by rw [ht]; rfl, by simp; omega, by simp⟩

/-- What the graph tells makes all clauses hold, but those of roots that are not so. -/
theorem tells_hold (bs : List Bool) (ps : List (Int × Int)) (rs : List Int) (hst : ∀ k (h : k < ps.length), standB ps[k].1 ps[k].2 (1 + bs.length + k) = true) (hr : ∀ x ∈ rs, 0 ≤ x) (t : List Bool) (ht : nodesV bs ps ps.length = false :: t) :
    holdsL t (cnfC bs.length ps rs) = rs.all (litV (nodesV bs ps ps.length)) := by
  obtain ⟨t', h1, h2, h3⟩ := nodesV_tail bs ps ps.length
  rw [ht] at h1
  obtain rfl : t = t' := by simpa using h1
  unfold cnfC
  rw [holdsL_app, roots_hold _ _ hr, ht]
  have := (ands_hold ps t bs.length h2 hst ps.length (Nat.le_refl _)).2 (by
    rw [h3, ht, List.take_of_length_le (by simp; omega)])
  rw [this, Bool.true_and]

/-- What makes all clauses hold is told by the graph. -/
theorem hold_told (v : List Bool) (n : Nat) (ps : List (Int × Int)) (rs : List Int) (hlen : v.length = n + ps.length) (hst : ∀ k (h : k < ps.length), standB ps[k].1 ps[k].2 (1 + n + k) = true) (h : holdsL v (cnfC n ps rs) = true) :
    nodesV (v.take n) ps ps.length = false :: v := by
  unfold cnfC at h
  rw [holdsL_app, Bool.and_eq_true] at h
  rw [(ands_hold ps v n hlen hst ps.length (Nat.le_refl _)).1 h.1, List.take_of_length_le (by simp; omega)]

/-- The literals of the first nodes. -/
def evens : Nat → List Int
  | 0 => []
  | k + 1 => evens k ++ [2 * ((k : Int) + 1)]
theorem evens_len (k : Nat) : (evens k).length = k := by
  induction k with
  | zero => rfl
  | succ k ih => simp [evens, ih]
theorem evens_lit (v : List Bool) (k : Nat) (h : k ≤ v.length) : (evens k).map (litV (false :: v)) = v.take k := by
  induction k with
  | zero => rfl
  | succ k ih =>
    rw [evens, List.map_append, ih (by omega), List.take_succ_eq_append_getElem (by omega)]
    have e : (2 * ((k : Int) + 1) / 2).toNat = k + 1 := by omega
    have o : odd (2 * ((k : Int) + 1)) = false := by simp [odd]
    simp only [List.map_cons, List.map_nil, litV, e, o]
    simp [List.getElem?_eq_getElem (show k < v.length by omega)]
theorem evens_mem (k : Nat) (x : Int) (h : x ∈ evens k) : 0 ≤ x ∧ x < 2 * (1 + k) := by
  induction k with
  | zero => simp [evens] at h
  | succ k ih =>
    simp [evens] at h
    rcases h with h | h
    · have := ih h; omega
    · omega

end Go.Proofs.Ytdlfjijfdibocaa
