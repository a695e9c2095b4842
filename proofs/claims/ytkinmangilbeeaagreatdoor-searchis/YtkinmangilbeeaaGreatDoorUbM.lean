/- Clauses of gates: what makes them hold. -/
import Derived.Test.YtkinmangilbeeaaGreatDoorGtM
namespace Go.Proofs.YtkinmangilbeeaaGreatDoor
open Go.RowKit Go.Maps Go.WideMaps
set_option maxRecDepth 100000

/-- The number that stands for a literal. -/
def numL (x : Int) : Int := if odd x = true then -(x / 2) else x / 2
/-- The clauses of an And at a node. -/
def andC (n a b : Int) : List (List Int) := [[-n, numL a], [-n, numL b], [n, -numL a, -numL b]]
/-- The clause of a root. -/
def rootC (x : Int) : List (List Int) := if x = 1 then [] else if x = 0 then [[]] else [[numL x]]
/-- The clauses of the first Ands. -/
def andsC (ins : Int) (ps : List (Int × Int)) : Nat → List (List Int)
  | 0 => []
  | k + 1 => andsC ins ps k ++ (match ps[k]? with | some p => andC (1 + ins + k) p.1 p.2 | none => [])
theorem andsC_succ {ins : Int} {ps : List (Int × Int)} {k : Nat} (h : k < ps.length) : andsC ins ps (k + 1) = andsC ins ps k ++ andC (1 + ins + k) ps[k].1 ps[k].2 := by
  simp [andsC, List.getElem?_eq_getElem h]
/-- Is a number so? -/
def soN (v : List Bool) (n : Int) : Bool := if n < 0 then !v.getD (-n - 1).toNat false else v.getD (n - 1).toNat false
/-- Do all clauses hold? -/
def holdsL (v : List Bool) (L : List (List Int)) : Bool := L.all fun c => c.any (soN v)

theorem soN_neg (v : List Bool) (n : Int) (h : 0 < n) : soN v (-n) = !v.getD (n.toNat - 1) false := by
  unfold soN
  rw [if_pos (by omega), show (-(-n) - 1).toNat = n.toNat - 1 by omega]
theorem soN_pos (v : List Bool) (n : Int) (h : 0 < n) : soN v n = v.getD (n.toNat - 1) false := by
  unfold soN
  rw [if_neg (by omega), show (n - 1).toNat = n.toNat - 1 by omega]
theorem litV_cons (v : List Bool) (x : Int) (h : 2 ≤ x) : litV (false :: v) x = (v.getD ((x / 2).toNat - 1) false != odd x) := by
  unfold litV
  obtain ⟨m, hm⟩ : ∃ m, (x / 2).toNat = m + 1 := ⟨(x / 2).toNat - 1, by omega⟩
  rw [hm]
  simp
theorem so_num (v : List Bool) (x : Int) (h : 2 ≤ x) : soN v (numL x) = litV (false :: v) x ∧ soN v (-numL x) = !litV (false :: v) x := by
  rw [litV_cons v x h]
  unfold numL
  cases ho : odd x
  · rw [if_neg (by decide), soN_pos v _ (by omega), soN_neg v _ (by omega)]
    simp
  · rw [if_pos rfl, Int.neg_neg, soN_neg v _ (by omega), soN_pos v _ (by omega)]
    simp

theorem stand_two {a b n : Int} (h : standB a b n = true) : 2 ≤ a ∧ a < 2 * n ∧ 2 ≤ b ∧ b < 2 * n := by
  simp [standB] at h
  omega

/-- An And's clauses hold just if its node is what both literals say. -/
theorem and_holds (v : List Bool) (n a b : Int) (hn : 0 < n) (ha : 2 ≤ a) (hb : 2 ≤ b) :
    holdsL v (andC n a b) = (v.getD (n.toNat - 1) false == (litV (false :: v) a && litV (false :: v) b)) := by
  obtain ⟨a1, a2⟩ := so_num v a ha
  obtain ⟨b1, b2⟩ := so_num v b hb
  simp only [holdsL, andC, List.all_cons, List.all_nil, List.any_cons, List.any_nil, soN_neg v n hn, soN_pos v n hn, a1, a2, b1, b2]
  cases v.getD (n.toNat - 1) false <;> cases litV (false :: v) a <;> cases litV (false :: v) b <;> rfl

theorem root_holds (v : List Bool) (x : Int) (h : 0 ≤ x) : holdsL v (rootC x) = litV (false :: v) x := by
  unfold rootC
  by_cases h1 : x = 1
  · subst h1; rw [if_pos rfl]; rfl
  · rw [if_neg h1]
    by_cases h0 : x = 0
    · subst h0; rw [if_pos rfl]; rfl
    · rw [if_neg h0]
      simp only [holdsL, List.all_cons, List.all_nil, List.any_cons, List.any_nil, (so_num v x (by omega)).1]
      simp

theorem holdsL_app (v : List Bool) (L M : List (List Int)) : holdsL v (L ++ M) = (holdsL v L && holdsL v M) := by simp [holdsL]

/-- The clauses of Ands hold just if the nodes are what the graph tells by the first values. -/
theorem ands_hold (ps : List (Int × Int)) (v : List Bool) (n : Nat) (hlen : v.length = n + ps.length) (hst : ∀ k (h : k < ps.length), standB ps[k].1 ps[k].2 (1 + n + k) = true) (k : Nat) (hk : k ≤ ps.length) :
    holdsL v (andsC n ps k) = true ↔ nodesV (v.take n) ps k = (false :: v).take (1 + n + k) := by
  induction k with
  | zero =>
    simp [andsC, holdsL, nodesV]
    rw [show 1 + n = n + 1 by omega, List.take_succ_cons]
  | succ k ih =>
    have hk' : k < ps.length := by omega
    have ih := ih (by omega)
    rw [andsC_succ hk', holdsL_app, Bool.and_eq_true, ih]
    obtain ⟨a0, a1, b0, b1⟩ := stand_two (hst k hk')
    rw [and_holds v _ _ _ (by omega) a0 b0, nodesV_succ hk', show 1 + n + (k + 1) = (1 + n + k) + 1 by omega]
    have hin : 1 + n + k < (false :: v).length := by simp; omega
    rw [List.take_succ_eq_append_getElem hin]
    have hlen2 : ((false :: v).take (1 + n + k)).length = 1 + n + k := by rw [List.length_take]; omega
    have e1 : (1 + (n : Int) + k).toNat - 1 = n + k := by omega
    have e2 : (false :: v)[1 + n + k] = v.getD (n + k) false := by
      simp only [show 1 + n + k = (n + k) + 1 by omega, List.getElem_cons_succ]
      simp [List.getD, List.getElem?_eq_getElem (show n + k < v.length by omega)]
    have la : ∀ x : Int, 2 ≤ x → x < 2 * (1 + n + k) → litV (false :: v) x = litV ((false :: v).take (1 + n + k)) x := fun x h1 h2 => by
      conv => lhs; rw [← List.take_append_drop (1 + n + k) (false :: v)]
      exact litV_app _ _ _ (by omega) (by rw [hlen2]; omega)
    rw [e1, e2, la _ a0 (by omega), la _ b0 (by omega)]
    constructor
    · rintro ⟨h1, h2⟩
      rw [h1]
      have := eq_of_beq h2
      rw [this]
    · intro h
      have hl := congrArg List.length h
      have := List.append_inj h (by rw [nodesV_len, hlen2, List.length_take]; omega)
      refine ⟨this.1, ?_⟩
      have h2 := this.2
      rw [this.1] at h2
      simp at h2
      rw [h2]; simp

/-- All clauses of a graph. -/
def cnfC (ins : Int) (ps : List (Int × Int)) (rs : List Int) : List (List Int) := andsC ins ps ps.length ++ rs.flatMap rootC

theorem roots_hold (v : List Bool) (rs : List Int) (h : ∀ x ∈ rs, 0 ≤ x) : holdsL v (rs.flatMap rootC) = rs.all (litV (false :: v)) := by
  induction rs with
  | nil => rfl
  | cons x t ih =>
    rw [List.flatMap_cons, holdsL_app, root_holds v x (h x (by simp)), ih (fun y hy => h y (by simp [hy]))]
    rfl

/-- What the nodes are, but node 0. -/
theorem nodesV_tail (bs : List Bool) (ps : List (Int × Int)) (k : Nat) : ∃ t, nodesV bs ps k = false :: t ∧ t.length = bs.length + k ∧ t.take bs.length = bs := by
  obtain ⟨t, ht⟩ := nodesV_pre bs ps (Nat.zero_le k)
  have hl := nodesV_len bs ps k
  rw [ht] at hl
  simp [nodesV] at hl
  exact ⟨bs ++ t, by rw [ht]; rfl, by simp; omega, by simp⟩

/-- What the graph tells makes all clauses hold, but those of roots that are not so. -/
theorem tells_hold (bs : List Bool) (ps : List (Int × Int)) (rs : List Int) (hst : ∀ k (h : k < ps.length), standB ps[k].1 ps[k].2 (1 + bs.length + k) = true) (hr : ∀ x ∈ rs, 0 ≤ x) (t : List Bool) (ht : nodesV bs ps ps.length = false :: t) :
    holdsL t (cnfC bs.length ps rs) = rs.all (litV (nodesV bs ps ps.length)) := by
  obtain ⟨t', h1, h2, h3⟩ := nodesV_tail bs ps ps.length
  rw [ht] at h1
  obtain rfl : t = t' := by simpa using h1
  unfold cnfC
  rw [holdsL_app, roots_hold _ _ hr, ht]
  have := (ands_hold ps t bs.length h2 hst ps.length (Nat.le_refl _)).2 (by
    rw [h3, ht, List.take_of_length_le (by simp; omega)])
  rw [this, Bool.true_and]

/-- What makes all clauses hold is told by the graph. -/
theorem hold_told (v : List Bool) (n : Nat) (ps : List (Int × Int)) (rs : List Int) (hlen : v.length = n + ps.length) (hst : ∀ k (h : k < ps.length), standB ps[k].1 ps[k].2 (1 + n + k) = true) (h : holdsL v (cnfC n ps rs) = true) :
    nodesV (v.take n) ps ps.length = false :: v := by
  unfold cnfC at h
  rw [holdsL_app, Bool.and_eq_true] at h
  rw [(ands_hold ps v n hlen hst ps.length (Nat.le_refl _)).1 h.1, List.take_of_length_le (by simp; omega)]

/-- The literals of the first nodes. -/
def evens : Nat → List Int
  | 0 => []
  | k + 1 => evens k ++ [2 * ((k : Int) + 1)]
theorem evens_len (k : Nat) : (evens k).length = k := by
  induction k with
  | zero => rfl
  | succ k ih => simp [evens, ih]
theorem evens_lit (v : List Bool) (k : Nat) (h : k ≤ v.length) : (evens k).map (litV (false :: v)) = v.take k := by
  induction k with
  | zero => rfl
  | succ k ih =>
    rw [evens, List.map_append, ih (by omega), List.take_succ_eq_append_getElem (by omega)]
    have e : (2 * ((k : Int) + 1) / 2).toNat = k + 1 := by omega
    have o : odd (2 * ((k : Int) + 1)) = false := by simp [odd]
    simp only [List.map_cons, List.map_nil, litV, e, o]
    simp [List.getElem?_eq_getElem (show k < v.length by omega)]
theorem evens_mem (k : Nat) (x : Int) (h : x ∈ evens k) : 0 ≤ x ∧ x < 2 * (1 + k) := by
  induction k with
  | zero => simp [evens] at h
  | succ k ih =>
    simp [evens] at h
    rcases h with h | h
    · have := ih h; omega
    · omega

end Go.Proofs.YtkinmangilbeeaaGreatDoor

namespace Go.Proofs.YtkinmangilbeeaaGreatDoor.Pf

/-- What must be, by clauses and by what is laid down. -/
def UP (L : List (List Int)) (A : Int → Prop) (n : Int) : Prop := ∀ P : Int → Prop, (∀ n, A n → P n) → (∀ (n : Int) (c : List Int), c ∈ L → n ∈ c → (∀ m ∈ c, m ≠ n → P (-m)) → P n) → P n
theorem UP.base {L : List (List Int)} {A : Int → Prop} {n : Int} (h : A n) : UP L A n := fun _ h1 _ => h1 n h
theorem UP.unit {L : List (List Int)} {A : Int → Prop} {n : Int} (c : List Int) (hc : c ∈ L) (hn : n ∈ c) (h : ∀ m ∈ c, m ≠ n → UP L A (-m)) : UP L A n := fun P h1 h2 => h2 n c hc hn fun m hm hne => h m hm hne P h1 h2
theorem UP.ind {L : List (List Int)} {A P : Int → Prop} (hb : ∀ n, A n → P n) (hu : ∀ (n : Int) (c : List Int), c ∈ L → n ∈ c → (∀ m ∈ c, m ≠ n → UP L A (-m)) → (∀ m ∈ c, m ≠ n → P (-m)) → P n) {n : Int} (h : UP L A n) : P n :=
 (h (fun n => UP L A n ∧ P n) (fun n h => ⟨UP.base h, hb n h⟩) fun n c hc hn ih => ⟨UP.unit c hc hn fun m hm hne => (ih m hm hne).1, hu n c hc hn (fun m hm hne => (ih m hm hne).1) fun m hm hne => (ih m hm hne).2⟩).2
theorem UP.out {L : List (List Int)} {A : Int → Prop} {n : Int} (h : UP L A n) : A n ∨ ∃ c, c ∈ L ∧ n ∈ c ∧ ∀ m ∈ c, m ≠ n → UP L A (-m) := UP.ind (P := fun n => A n ∨ ∃ c, c ∈ L ∧ n ∈ c ∧ ∀ m ∈ c, m ≠ n → UP L A (-m)) (fun _ h => .inl h) (fun _ c hc hn h _ => .inr ⟨c, hc, hn, h⟩) h
/-- It comes to a clause of which all are not so, or to one that is laid down with its opposite. -/
def Confl (L : List (List Int)) (A : Int → Prop) : Prop := (∃ n, A n ∧ A (-n)) ∨ ∃ c ∈ L, ∀ m ∈ c, UP L A (-m)

theorem UP.mono {L : List (List Int)} {A B : Int → Prop} (h : ∀ n, A n → UP L B n) {n : Int} (hn : UP L A n) : UP L B n := UP.ind (P := UP L B) h (fun _ c hc hm _ ih => UP.unit c hc hm ih) hn
theorem UP.more {L M : List (List Int)} {A : Int → Prop} (h : ∀ c ∈ L, ∃ d ∈ M, ∀ x, x ∈ d ↔ x ∈ c) {n : Int} (hn : UP L A n) : UP M A n := UP.ind (P := UP M A) (fun _ ha => UP.base ha) (fun _ c hc hm _ ih => by
 obtain ⟨d, hd, hx⟩ := h c hc
 exact UP.unit d hd ((hx _).2 hm) fun m hm' hne => ih m ((hx _).1 hm') hne) hn
theorem Confl.mono {L : List (List Int)} {A B : Int → Prop} (h : ∀ n, A n → B n) (hc : Confl L A) : Confl L B := by
  rcases hc with ⟨n, h1, h2⟩ | ⟨c, hc, hm⟩
  · exact .inl ⟨n, h _ h1, h _ h2⟩
  · exact .inr ⟨c, hc, fun m hmm => (hm m hmm).mono fun n hn => .base (h n hn)⟩
/-- Two that must be, and are opposites, make it fail. -/
theorem confl_of_both {L : List (List Int)} {A : Int → Prop} {n : Int} (h1 : UP L A n) (h2 : UP L A (-n)) : Confl L A := by
 rcases UP.out h1 with ha | ⟨c, hc, hm, hr⟩
 · rcases UP.out h2 with hb | ⟨c, hc, hm, hr⟩
   · exact .inl ⟨n, ha, hb⟩
   · refine .inr ⟨c, hc, fun m hmm => ?_⟩
     by_cases h : m = -n
     · subst h; rw [Int.neg_neg]; exact UP.base ha
     · exact hr m hmm h
 · refine .inr ⟨c, hc, fun m hmm => ?_⟩
   by_cases h : m = n
   · subst h; exact h2
   · exact hr m hmm h
/-- What is so is closed: a clause of which all but one are not so has that one so. -/
def Closed (L : List (List Int)) (S : Int → Prop) : Prop := ∀ c ∈ L, ∀ n ∈ c, (∀ m ∈ c, m ≠ n → S (-m)) → S n
/-- No clause is lost, and none of what is so has its opposite. -/
def Fine (L : List (List Int)) (S : Int → Prop) : Prop := (∀ n, S n → ¬ S (-n)) ∧ ∀ c ∈ L, ∃ m ∈ c, ¬ S (-m)
/-- Of each clause one is so, or two are neither. -/
def Sat (L : List (List Int)) (S : Int → Prop) : Prop := ∀ c ∈ L, (∃ m ∈ c, S m) ∨ ∃ m ∈ c, ∃ n ∈ c, m ≠ n ∧ ¬ S (-m) ∧ ¬ S (-n)
theorem up_in {L : List (List Int)} {A S : Int → Prop} (hA : ∀ n, A n → S n) (hc : ∀ n, S n → ¬ S (-n)) (hs : Sat L S) {n : Int} (h : UP L A n) : S n := by
 refine UP.ind (P := S) hA (fun n c hcl hm _ ih => ?_) h
 rcases hs c hcl with ⟨m, hmc, hS⟩ | ⟨m, hmc, k, hkc, hne, h1, h2⟩
 · by_cases h : m = n
   · subst h; exact hS
   · exact absurd (ih m hmc h) (hc m hS)
 · by_cases h : m = n
   · subst h
     exact absurd (ih k hkc (Ne.symm hne)) h2
   · exact absurd (ih m hmc h) h1
/-- Where nothing more comes, nothing fails. -/
theorem no_confl {L : List (List Int)} {A S : Int → Prop} (hA : ∀ n, A n → S n) (hc : ∀ n, S n → ¬ S (-n)) (hs : Sat L S) : ¬ Confl L A := by
  intro h
  rcases h with ⟨n, h1, h2⟩ | ⟨c, hcl, hm⟩
  · exact hc n (hA n h1) (hA _ h2)
  · have hall : ∀ m ∈ c, S (-m) := fun m hmc => up_in hA hc hs (hm m hmc)
    rcases hs c hcl with ⟨m, hmc, hS⟩ | ⟨m, hmc, k, hkc, hne, h1, h2⟩
    · exact hc m hS (hall m hmc)
    · exact h1 (hall m hmc)
end Go.Proofs.YtkinmangilbeeaaGreatDoor.Pf

namespace Go.Proofs.YtkinmangilbeeaaGreatDoor.Pf

/-- A board: its clauses; its steps (number, level, clause); and who watches a number. -/
structure Bd where
  cl : List (List Int)
  sp : List (Int × Int × Int)
  level : Int
  lost : Bool
  spread : Nat
  wt : Int → List (Nat × Int)
def Bd.st (B : Bd) : List Int := B.sp.map (·.1)
def Bd.zero (B : Bd) : List Int := (B.sp.filter (fun s => s.2.1 == 0)).map (·.1)
def Bd.so (B : Bd) (n : Int) : Bool := decide (n ∈ B.st)
def upd {α : Type} (f : Int → α) (k : Int) (v : α) : Int → α := fun x => if x = k then v else f x
def Bd.put (B : Bd) (n c : Int) : Bd := { B with sp := B.sp ++ [(n, B.level, c)] }
theorem so_iff {B : Bd} {n : Int} : B.so n = true ↔ n ∈ B.st := by simp [Bd.so]
theorem so_no {B : Bd} {n : Int} : B.so n = false ↔ n ∉ B.st := by simp [Bd.so]
theorem upd_same {α : Type} (f : Int → α) (k : Int) (v : α) : upd f k v k = v := by simp [upd]
theorem upd_ne {α : Type} (f : Int → α) {k x : Int} (v : α) (h : x ≠ k) : upd f k v x = f x := by simp [upd, h]
theorem st_put (B : Bd) (n c : Int) : (B.put n c).st = B.st ++ [n] := by simp [Bd.put, Bd.st]
theorem zero_put (B : Bd) (n c : Int) : (B.put n c).zero = if B.level = 0 then B.zero ++ [n] else B.zero := by
  unfold Bd.put Bd.zero
  by_cases h : B.level = 0
  · simp [List.filter_append, h]
  · simp [List.filter_append, h]
theorem zero_sub {B : Bd} {n : Int} (h : n ∈ B.zero) : n ∈ B.st := by
  obtain ⟨s, hs, rfl⟩ := List.mem_map.1 h
  exact List.mem_map.2 ⟨s, (List.mem_filter.1 hs).1, rfl⟩

def Num (V x : Int) : Prop := x ≠ 0 ∧ -V ≤ x ∧ x ≤ V
theorem Num.neg {V x : Int} (h : Num V x) : Num V (-x) := ⟨by have := h.1; omega, by have := h.2.2; omega, by have := h.2.1; omega⟩
/-- A number that a clause watches: one of its first two. -/
def Wat (n : Int) : List Int → Prop
  | a :: b :: _ => n = a ∨ n = b
  | _ => False
theorem Wat.mem {n : Int} {c : List Int} (h : Wat n c) : n ∈ c := by
  match c, h with
  | a :: b :: r, h => rcases h with rfl | rfl <;> simp
structure Wf (V : Int) (B : Bd) : Prop where
  cl : ∀ c ∈ B.cl, c.Nodup ∧ 1 ≤ c.length ∧ c.length ≤ 200 ∧ ∀ x ∈ c, Num V x
  sn : B.st.Nodup
  sc : ∀ n ∈ B.st, -n ∉ B.st
  sr : ∀ n ∈ B.st, Num V n
  sp : B.spread ≤ B.sp.length
  wi : ∀ n, ∀ p ∈ B.wt n, ∃ c, B.cl[p.1]? = some c ∧ Wat n c ∧ p.2 ∈ c ∧ p.2 ≠ n
  wd : ∀ n, ((B.wt n).map (·.1)).Nodup
  wa : ∀ i c, B.cl[i]? = some c → ∀ n, Wat n c → ∃ o, (i, o) ∈ B.wt n
  lv : ∀ s ∈ B.sp, 0 ≤ s.2.1 ∧ s.2.1 ≤ B.level
/-- What the numbers of D, gone on from, have brought. -/
structure Cmp (B : Bd) (D : List Int) : Prop where
  one : ∀ c ∈ B.cl, c.length = 1 → ∀ x ∈ c, x ∈ B.zero
  dn : ∀ n ∈ D, ∀ c ∈ B.cl, Wat (-n) c → ∃ m ∈ c, m ∈ B.st
  dz : ∀ n ∈ D, n ∈ B.zero → ∀ c ∈ B.cl, Wat (-n) c → ∃ m ∈ c, m ∈ B.zero
/-- What is so must be, by what was chosen; and that of level 0 by nothing but the clauses. -/
structure Snd (B : Bd) (ch : Int → Prop) : Prop where
  st : ∀ n ∈ B.st, UP B.cl ch n
  zs : ∀ n ∈ B.zero, UP B.cl (fun _ => False) n

/-- A board that has gone on from all leaves nothing. -/
theorem sat_of {V : Int} {B : Bd} (h : Wf V B) (k : Cmp B B.st) : Sat B.cl (· ∈ B.st) := by
  intro c hc
  obtain ⟨hnd, hl, _, _⟩ := h.cl c hc
  match c, hl, hnd, hc with
  | [x], _, _, hc => exact .inl ⟨x, by simp, zero_sub (k.one _ hc rfl x (by simp))⟩
  | a :: b :: r, _, hnd, hc =>
    by_cases ha : -a ∈ B.st
    · exact .inl (k.dn _ ha _ hc (by rw [Int.neg_neg]; exact .inl rfl))
    · by_cases hb : -b ∈ B.st
      · exact .inl (k.dn _ hb _ hc (by rw [Int.neg_neg]; exact .inr rfl))
      · exact .inr ⟨a, by simp, b, by simp, by simp at hnd; exact fun e => hnd.1.1 e, ha, hb⟩

/-- A clause's watch turned from a number that is not so, if there is one to turn to: the clause then, and that one. -/
def Bd.turnC (B : Bd) (nt : Int) : List Int → List Int × Option Int
  | a :: b :: r =>
    let o := if a = nt then b else a
    if B.so o then (o :: nt :: r, none) else
      match r.findIdx? (fun x => !B.so (-x)) with
      | none => (o :: nt :: r, none)
      | some j => (o :: r.getD j 0 :: r.set j nt, some (r.getD j 0))
  | c => (c, none)
theorem turnC_fst {nt a b : Int} {r : List Int} (hw : Wat nt (a :: b :: r)) (hn : (a :: b :: r).Nodup) :
    ∃ o, o = (if a = nt then b else a) ∧ o ≠ nt ∧ Wat o (a :: b :: r) ∧ (∀ y, y ∈ o :: nt :: r ↔ y ∈ a :: b :: r) ∧ (o :: nt :: r).Nodup ∧ (∀ y, Wat y (a :: b :: r) ↔ (y = o ∨ y = nt)) := by
  have hab : a ≠ b := by intro e; subst e; simp at hn
  rcases hw with rfl | rfl
  · refine ⟨b, by simp, fun e => hab e.symm, .inr rfl, fun y => by simp only [List.mem_cons]; constructor <;> (rintro (h | h | h) <;> simp [h]), ?_, fun y => ?_⟩
    · simp at hn ⊢
      exact ⟨⟨fun e => hab e.symm, hn.2.1⟩, hn.1.2, hn.2.2⟩
    · show (y = nt ∨ y = b) ↔ _
      constructor <;> (rintro (h | h) <;> simp [h])
  · exact ⟨a, by simp [hab], hab, .inl rfl, fun y => Iff.rfl, hn, fun y => Iff.rfl⟩
structure Turned (B : Bd) (nt : Int) (c c' : List Int) (o : Int) (t : Option Int) : Prop where
  mem : ∀ y, y ∈ c' ↔ y ∈ c
  nd : c'.Nodup
  len : c'.length = c.length
  fst : c'.getD 0 0 = o
  ne : o ≠ nt
  old : ∀ y, Wat y c ↔ (y = o ∨ y = nt)
  no : t = none → (∀ y, Wat y c' ↔ (y = o ∨ y = nt)) ∧ (o ∈ B.st ∨ ∀ y ∈ c', y ≠ o → y ≠ nt → -y ∈ B.st)
  yes : ∀ x, t = some x → x ∈ c ∧ x ≠ o ∧ x ≠ nt ∧ -x ∉ B.st ∧ ∀ y, Wat y c' ↔ (y = o ∨ y = x)
theorem nodup_inj {r : List Int} (hn : r.Nodup) {a b : Nat} (ha : a < r.length) (hb : b < r.length) (e : r[a] = r[b]) : a = b := by
  rw [List.nodup_iff_pairwise_ne, List.pairwise_iff_getElem] at hn
  rcases Nat.lt_trichotomy a b with h | h | h
  · exact absurd e (hn a b ha hb h)
  · exact h
  · exact absurd e.symm (hn b a hb ha h)
theorem set_mem {r : List Int} {j : Nat} (hj : j < r.length) (v y : Int) (hn : r.Nodup) (hv : v ∉ r) : y ∈ r.set j v ↔ (y = v ∨ (y ∈ r ∧ y ≠ r[j])) := by
  constructor
  · intro h
    obtain ⟨k, hk, rfl⟩ := List.getElem_of_mem h
    rw [List.length_set] at hk
    rw [List.getElem_set]
    split
    · exact .inl rfl
    · rename_i hjk
      refine .inr ⟨List.getElem_mem hk, fun e => hjk ?_⟩
      exact (nodup_inj hn hk hj e).symm
  · rintro (rfl | ⟨h, hne⟩)
    · exact List.mem_set hj y
    · obtain ⟨k, hk, rfl⟩ := List.getElem_of_mem h
      have hjk : j ≠ k := fun e => hne (by subst e; rfl)
      exact List.mem_iff_getElem.2 ⟨k, by rw [List.length_set]; exact hk, by rw [List.getElem_set_ne hjk]⟩
theorem set_nodup {r : List Int} (j : Nat) (v : Int) (hn : r.Nodup) (hv : v ∉ r) : (r.set j v).Nodup := by
  rw [List.nodup_iff_pairwise_ne, List.pairwise_iff_getElem] at *
  intro a b ha hb hab
  rw [List.length_set] at ha hb
  rw [List.getElem_set, List.getElem_set]
  split
  · split
    · omega
    · intro e; exact hv (e ▸ List.getElem_mem hb)
  · split
    · intro e; exact hv (e ▸ List.getElem_mem ha)
    · exact hn a b ha hb hab
theorem turned {B : Bd} {nt : Int} {c : List Int} (hw : Wat nt c) (hn : c.Nodup) : ∃ o, Turned B nt c (B.turnC nt c).1 o (B.turnC nt c).2 := by
  match c, hw, hn with
  | a :: b :: r, hw, hn =>
    obtain ⟨o, ho, h1, h2, h3, h4, h5⟩ := turnC_fst hw hn
    unfold Bd.turnC
    simp only [← ho]
    have hl : ∀ l : List Int, l.length = r.length → (o :: nt :: l).length = (a :: b :: r).length := fun l hl => by simp [hl]
    by_cases hs : B.so o = true
    · rw [if_pos hs]
      exact ⟨o, h3, h4, by simp, by simp, h1, h5, fun _ => ⟨fun y => Iff.rfl, .inl (so_iff.1 hs)⟩, fun x h => by cases h⟩
    · rw [if_neg hs]
      cases hf : r.findIdx? (fun x => !B.so (-x)) with
      | none =>
        refine ⟨o, h3, h4, by simp, by simp, h1, h5, fun _ => ⟨fun y => Iff.rfl, .inr fun y hy hyo hyn => ?_⟩, fun x h => by cases h⟩
        have hyr : y ∈ r := by simpa [hyo, hyn] using hy
        have := List.findIdx?_eq_none_iff.1 hf y hyr
        simpa [Bd.so] using this
      | some j =>
        obtain ⟨hj, hp, _⟩ := List.findIdx?_eq_some_iff_getElem.1 hf
        have hg : r.getD j 0 = r[j] := by simp [List.getD, List.getElem?_eq_getElem hj]
        simp only [hg]
        have hx : -r[j] ∉ B.st := by simpa [Bd.so] using hp
        have hnr : r.Nodup := by simp at h4; exact h4.2.2
        have hor : o ∉ r := by simp at h4; exact h4.1.2
        have htr : nt ∉ r := by simp at h4; exact h4.2.1
        have hxm := List.getElem_mem hj
        have hxo : r[j] ≠ o := fun e => hor (e ▸ hxm)
        have hxn : r[j] ≠ nt := fun e => htr (e ▸ hxm)
        refine ⟨o, fun y => ?_, ?_, by simp, by simp, h1, h5, (fun h => by cases h), fun x h => ?_⟩
        · rw [← h3 y]
          simp only [List.mem_cons, set_mem hj nt y hnr htr]
          constructor
          · rintro (h | h | h | ⟨h, _⟩) <;> simp [h]
          · rintro (h | h | h)
            · simp [h]
            · simp [h]
            · by_cases e : y = r[j]
              · simp [e]
              · simp [h, e]
        · simp only [List.nodup_cons, List.mem_cons, set_mem hj nt _ hnr htr, not_or]
          exact ⟨⟨fun e => hxo e.symm, h1, fun h => hor h.1⟩, ⟨hxn, fun h => h.2 rfl⟩, set_nodup j nt hnr htr⟩
        · injection h with h
          subst h
          exact ⟨(h3 _).1 (by simp), hxo, hxn, hx, fun y => Iff.rfl⟩
end Go.Proofs.YtkinmangilbeeaaGreatDoor.Pf
