/- The small calls of package word, basics and latchworkref: what each returns; none of them changes what was there. -/
import Derived.Test.YtfobcnhibhbbaaaGreatDoorProg
import Derived.WalkKit
import Derived.WalkSpells
import Derived.WalkLawsBesides
namespace Go.Proofs.YtfobcnhibhbbaaaGreatDoor.Ev
open Go.RowKit
set_option maxRecDepth 100000

theorem ret_int {k : IntKind} {a b : Int} (h : a = b) : Ending.returned (.int k a) = .returned (.int k b) := by rw [h]
theorem ret_bool {a b : Bool} (h : a = b) : Ending.returned (.bool a) = .returned (.bool b) := by rw [h]

/-- From lo to hi. -/
def btw (n lo hi : Int) : Bool := decide (lo ≤ n) && decide (n ≤ hi)
theorem btw_true {n lo hi : Int} : btw n lo hi = true ↔ lo ≤ n ∧ n ≤ hi := by simp [btw]
theorem btw_false {n lo hi : Int} : btw n lo hi = false ↔ ¬ (lo ≤ n ∧ n ≤ hi) := by rw [← btw_true]; simp

set_option maxHeartbeats 400000 in
theorem isWidth_any (x : Int) (w : World) :
    Calls Tryz.prog 48 #[.int .i64 x] w fun e w' => e = .returned (.bool (btw x 1 8)) ∧ w' = w := by
  go_enter Tryz.func48, Tryz.ntmps48
  go_wp2
  all_goals
    go_ret
    exact ⟨ret_bool (by rw [Bool.eq_iff_iff, btw_true]; simp; try omega), rfl⟩

set_option maxHeartbeats 400000 in
theorem isOp_any (x : Int) (w : World) :
    Calls Tryz.prog 49 #[.int .i64 x] w fun e w' => e = .returned (.bool (btw x 4 23)) ∧ w' = w := by
  go_enter Tryz.func49, Tryz.ntmps49
  go_wp2
  all_goals
    go_ret
    exact ⟨ret_bool (by rw [Bool.eq_iff_iff, btw_true]; simp; try omega), rfl⟩

/-- How many words a kind takes. -/
def takes (k : Int) : Int :=
  if k = 4 ∨ k = 5 ∨ k = 21 ∨ k = 22 ∨ k = 23 then 1 else if k = 19 then 3 else if 6 ≤ k ∧ k ≤ 20 then 2 else 0

set_option maxHeartbeats 400000 in
theorem words_any (x : Int) (w : World) :
    Calls Tryz.prog 73 #[.int .i64 x] w fun e w' => e = .returned (.int .i64 (takes x)) ∧ w' = w := by
  go_enter Tryz.func73, Tryz.ntmps73
  go_wp2
  all_goals
    go_ret
    refine ⟨ret_int ?_, rfl⟩
    simp only [beq_iff_eq, beq_eq_false_iff_ne, ne_eq] at *
    unfold takes
    (repeat' split) <;> omega


/-- The shape of a kind, as a number. -/
def shape (k : Int) : Int :=
  if ¬ (4 ≤ k ∧ k ≤ 23) then 0 else if k ≤ 5 then 1 else if k ≤ 15 then 2 else if k ≤ 18 then 3 else if k = 19 then 4 else if k = 20 then 5 else if k = 21 then 6 else 7

set_option maxHeartbeats 400000 in
theorem shapeOf_any (x : Int) (w : World) :
    Calls Tryz.prog 88 #[.int .i64 x] w fun e w' => e = .returned (.int .i64 (shape x)) ∧ w' = w := by
  go_enter Tryz.func88, Tryz.ntmps88
  go_wp2
  all_goals
    go_ret
    refine ⟨ret_int ?_, rfl⟩
    try simp only [beq_iff_eq, beq_eq_false_iff_ne, ne_eq, Bool.not_eq_true', Bool.not_eq_false', decide_eq_true_eq, decide_eq_false_iff_not] at *
    unfold shape
    (repeat' split) <;> omega

theorem push_set {α : Type} (a : Array α) (x y : α) : (a.push x).setIfInBounds a.size y = a.push y := by
  apply Array.ext'
  simp

theorem checkKey_int {P : Program} {t : TypeId} {q : IntKind} (h : P.underlying t = some (.int q)) (b : Bool) (n : Nat) (v : Value) (w : World) : (Instr.checkKey b (n + 1) t v).run P w = .ok () w := by
  simp [Instr.checkKey, run_underlying h]

theorem run_ins (w : World) (es : Array MapEntry) (c : Nat) (k : Int) (v : Value)
    (h : Instr.findNow (.int .i64) (.int .i64 k) es.toList 0 = some none) :
    (Instr.mapUpdate 142 (.map (some w.heap.size)) (.int .i64 k) v).run Tryz.prog (w.alloc (.map es c)) = .ok () (w.alloc (.map (es.push ⟨.int .i64 k, v, c⟩) (c+1))) := by
  have hb : (w.alloc (.map es c)).heap[w.heap.size]? = some (.map es c) := (MapKept.heap_alloc w _).1
  have hk := checkKey_int Tryz.underlying144 false 9999 (.int .i64 k) (w.alloc (.map es c))
  unfold Instr.mapUpdate
  simp only [Sem.run_bind, run_underlying Tryz.underlying142, MapKept.run_getObj_map hb, Result.andThen, hk]
  simp [Instr.findKey, run_underlying Tryz.underlying144, h,  MapKept.run_setObj_map _ hb]
  show World.mk ((w.heap.push _).setIfInBounds w.heap.size _) _ _ _ _ = World.mk (w.heap.push _) _ _ _ _
  rw [push_set]
  rfl

/-- A demand, as a value. -/
abbrev dm (o a b c : Int) : Value := .agg #[.int .i64 o, .int .i64 a, .int .i64 b, .int .i64 c]
/-- An entry of the map of demands. -/
abbrev dmE (n : Nat) (k : Int) (v : Value) : MapEntry := ⟨.int .i64 k, v, n⟩
def dmMap : Array MapEntry := #[dmE 0 1 (dm 0 2 0 0), dmE 1 2 (dm 0 2 2 0), dmE 2 3 (dm 1 0 3 0), dmE 3 4 (dm 0 1 2 2), dmE 4 5 (dm 0 0 4 0), dmE 5 6 (dm 0 5 0 0), dmE 6 7 (dm 0 6 0 0)]

set_option maxRecDepth 100000 in
set_option maxHeartbeats 400000 in
theorem demands_any (w : World) :
    Calls Tryz.prog 87 #[] w fun e w' => e = .returned (.map (some w.heap.size)) ∧ w' = w.alloc (.map dmMap 7) := by
  have hmm := @run_makeMap Tryz.prog
  have i1 := fun v => run_ins w #[] 0 1 v (by simp [Instr.findNow])
  have i2 := fun v1 v => run_ins w #[⟨.int .i64 1, v1, 0⟩] 1 2 v (by simp [Instr.findNow, Instr.sameNow])
  have i3 := fun v1 v2 v => run_ins w #[⟨.int .i64 1, v1, 0⟩, ⟨.int .i64 2, v2, 1⟩] 2 3 v (by simp [Instr.findNow, Instr.sameNow])
  have i4 := fun v1 v2 v3 v => run_ins w #[⟨.int .i64 1, v1, 0⟩, ⟨.int .i64 2, v2, 1⟩, ⟨.int .i64 3, v3, 2⟩] 3 4 v (by simp [Instr.findNow, Instr.sameNow])
  have i5 := fun v1 v2 v3 v4 v => run_ins w #[⟨.int .i64 1, v1, 0⟩, ⟨.int .i64 2, v2, 1⟩, ⟨.int .i64 3, v3, 2⟩, ⟨.int .i64 4, v4, 3⟩] 4 5 v (by simp [Instr.findNow, Instr.sameNow])
  have i6 := fun v1 v2 v3 v4 v5 v => run_ins w #[⟨.int .i64 1, v1, 0⟩, ⟨.int .i64 2, v2, 1⟩, ⟨.int .i64 3, v3, 2⟩, ⟨.int .i64 4, v4, 3⟩, ⟨.int .i64 5, v5, 4⟩] 5 6 v (by simp [Instr.findNow, Instr.sameNow])
  have i7 := fun v1 v2 v3 v4 v5 v6 v => run_ins w #[⟨.int .i64 1, v1, 0⟩, ⟨.int .i64 2, v2, 1⟩, ⟨.int .i64 3, v3, 2⟩, ⟨.int .i64 4, v4, 3⟩, ⟨.int .i64 5, v5, 4⟩, ⟨.int .i64 6, v6, 5⟩] 6 7 v (by simp [Instr.findNow, Instr.sameNow])
  go_enter Tryz.func87, Tryz.ntmps87
  go_wp2
  go_ret
  exact ⟨rfl, rfl⟩


/-- What a demand of one width says of it (asked: the number; own: the operation's width; a: a's width). -/
def askOk (asked by_ own a n : Int) : Bool :=
  if asked = 1 then by_ == 1 else if asked = 2 then by_ == own else if asked = 3 then by_ == a else if asked = 4 then by_ == own - a
  else if asked = 5 then decide (0 ≤ n) && decide (n ≤ by_ - own) else if asked = 6 then decide (by_ ≤ own) else true

set_option maxHeartbeats 400000 in
theorem meets_any (asked by_ own n a : Int) (p q r : Nat) (w : World)
    (h1 : w.cell? ⟨p, 0, none⟩ = some (.int .i64 own)) (h2 : w.cell? ⟨q, 0, none⟩ = some (.int .i64 a)) (h3 : w.cell? ⟨r, 0, none⟩ = some (.int .i64 n))
    (b1 : 0 ≤ own ∧ own ≤ 8) (b2 : 0 ≤ a ∧ a ≤ 8) (b3 : 0 ≤ by_ ∧ by_ ≤ 8) :
    Calls Tryz.prog 101 #[.int .i64 asked, .int .i64 by_, .pointer (some ⟨p, 0, none⟩), .pointer (some ⟨q, 0, none⟩), .pointer (some ⟨r, 0, none⟩)] w fun e w' => e = .returned (.bool (askOk asked by_ own a n)) ∧ w' = w := by
  go_enter Tryz.func101, Tryz.ntmps101
  go_wp2
  all_goals
    go_ret
    refine ⟨ret_bool ?_, rfl⟩
    simp only [beq_iff_eq, beq_eq_false_iff_ne, ne_eq] at *
    unfold askOk
    clear h1 h2 h3
    simp [*]
    try omega

end Go.Proofs.YtfobcnhibhbbaaaGreatDoor.Ev

namespace Go.Proofs.YtfobcnhibhbbaaaGreatDoor.Ev.Xp

/-- A state: its words. -/
abbrev Sg : Type := List Int
/-- By so many steps: from where it begins, by moves that may be taken. -/
def Reach (ini : List Sg) (mv : Sg → List (Bool × Bool × Sg)) : Nat → Sg → Prop
 | 0, s => s ∈ ini
 | k + 1, t => ∃ s b, Reach ini mv k s ∧ (true, b, t) ∈ mv s
theorem Reach.zero {ini : List Sg} {mv : Sg → List (Bool × Bool × Sg)} {s : Sg} (h : s ∈ ini) : Reach ini mv 0 s := h
theorem Reach.step {ini : List Sg} {mv : Sg → List (Bool × Bool × Sg)} {k : Nat} {s t : Sg} {b : Bool} (h : Reach ini mv k s) (hm : (true, b, t) ∈ mv s) : Reach ini mv (k + 1) t := ⟨s, b, h, hm⟩
theorem Reach.ind {ini : List Sg} {mv : Sg → List (Bool × Bool × Sg)} {motive : ∀ (k : Nat) (s : Sg), Reach ini mv k s → Prop} (zero : ∀ {s : Sg} (h : s ∈ ini), motive 0 s (Reach.zero h)) (step : ∀ {k : Nat} {s t : Sg} {b : Bool} (hr : Reach ini mv k s) (hm : (true, b, t) ∈ mv s), motive k s hr → motive (k + 1) t (Reach.step hr hm)) : ∀ {k : Nat} {s : Sg} (h : Reach ini mv k s), motive k s h
 | 0, _, h => zero h
 | _ + 1, _, ⟨_, _, hr, hm⟩ => step hr hm (Reach.ind zero step hr)
/-- By so many, and no fewer. -/
def Dist (ini : List Sg) (mv : Sg → List (Bool × Bool × Sg)) (k : Nat) (s : Sg) : Prop := Reach ini mv k s ∧ ∀ j, Reach ini mv j s → k ≤ j
theorem Dist.uniq {ini : List Sg} {mv : Sg → List (Bool × Bool × Sg)} {k l : Nat} {s : Sg} (h : Dist ini mv k s) (h2 : Dist ini mv l s) : k = l := by
  have := h.2 l h2.1
  have := h2.2 k h.1
  omega
theorem reach_dist {ini : List Sg} {mv : Sg → List (Bool × Bool × Sg)} : ∀ (k : Nat) {s : Sg}, Reach ini mv k s → ∃ d, d ≤ k ∧ Dist ini mv d s := by
  intro k
  induction k using Nat.strongRecOn with
  | _ k ih =>
    intro s h
    by_cases hl : ∃ j, j < k ∧ Reach ini mv j s
    · obtain ⟨j, hj, hr⟩ := hl
      obtain ⟨d, hd, hD⟩ := ih j hj hr
      exact ⟨d, by omega, hD⟩
    · exact ⟨k, Nat.le_refl _, h, fun j hj => Nat.le_of_not_lt fun hlt => hl ⟨j, hlt, hj⟩⟩
/-- A state is met, by so many steps, if it was not. -/
def meetE (m : List (Sg × Nat)) (s : Sg) (k : Nat) : List (Sg × Nat) := if s ∈ m.map (·.1) then m else m ++ [(s, k)]
theorem meet_mem {m : List (Sg × Nat)} {s : Sg} {k : Nat} : s ∈ (meetE m s k).map (·.1) := by
  unfold meetE
  split
  · assumption
  · simp
theorem meet_pre (m : List (Sg × Nat)) (s : Sg) (k : Nat) : m <+: meetE m s k := by
  unfold meetE
  split
  · exact List.prefix_refl _
  · exact List.prefix_append _ _
theorem pre_in {m m' : List (Sg × Nat)} (h : m <+: m') {s : Sg} (hs : s ∈ m.map (·.1)) : s ∈ m'.map (·.1) := by
  obtain ⟨t, rfl⟩ := h
  rw [List.map_append]
  exact List.mem_append.2 (.inl hs)
theorem pre_at {m m' : List (Sg × Nat)} (h : m <+: m') {i : Nat} {x : Sg × Nat} (hx : m[i]? = some x) : m'[i]? = some x := by
  obtain ⟨t, rfl⟩ := h
  rw [List.getElem?_append_left (List.getElem?_eq_some_iff.1 hx).1]
  exact hx
/-- What is so while states are left: q of those that were met have been. -/
structure Jb (ini : List Sg) (mv : Sg → List (Bool × Bool × Sg)) (m : List (Sg × Nat)) (q : Nat) : Prop where
  nd : (m.map (·.1)).Nodup
  ds : ∀ x ∈ m, Dist ini mv x.2 x.1
  st : ∀ (i j : Nat) (a b : Sg × Nat), i ≤ j → m[i]? = some a → m[j]? = some b → a.2 ≤ b.2
  cl : ∀ (i : Nat) (a : Sg × Nat), i < q → m[i]? = some a → ∀ b t, (true, b, t) ∈ mv a.1 → t ∈ m.map (·.1)
  it : ∀ s ∈ ini, s ∈ m.map (·.1)
  up : ∀ a : Sg × Nat, m[q]? = some a → ∀ x ∈ m, x.2 ≤ a.2 + 1
  ql : q ≤ m.length
section
variable {ini : List Sg} {mv : Sg → List (Bool × Bool × Sg)} {m : List (Sg × Nat)} {q : Nat}
/-- What is nearer than the one that is left has been met. -/
theorem Jb.near (h : Jb ini mv m q) {a : Sg × Nat} (ha : m[q]? = some a) : ∀ (k : Nat) {t : Sg}, k ≤ a.2 → Reach ini mv k t → t ∈ m.map (·.1) := by
  intro k
  induction k with
  | zero =>
    intro t _ hr
    exact h.it t hr
  | succ k ih =>
    intro t hk hr
    obtain ⟨s, b, hr, hm⟩ := hr
    focus
      obtain ⟨⟨s', d⟩, hx, rfl⟩ := List.mem_map.1 (ih (by omega) hr)
      have hd := (h.ds _ hx).2 _ hr
      obtain ⟨i, hi, e⟩ := List.getElem_of_mem hx
      have hi' : m[i]? = some (s', d) := by rw [List.getElem?_eq_getElem hi, e]
      refine h.cl i (s', d) (Nat.lt_of_not_le fun hle => ?_) hi' b t hm
      have := h.st q i a (s', d) hle ha hi'
      simp only at this hd
      omega
/-- While the q-th is left, by some of its moves. -/
theorem Jb.meet (h : Jb ini mv m q) {a : Sg × Nat} (ha : m[q]? = some a) {b : Bool} {t : Sg} (hm : (true, b, t) ∈ mv a.1) : Jb ini mv (meetE m t (a.2 + 1)) q := by
  unfold meetE
  split
  · exact h
  · rename_i hn
    have haD := h.ds a (List.mem_of_getElem? ha)
    have hap : ∀ {i : Nat} {x : Sg × Nat}, (m ++ [(t, a.2 + 1)])[i]? = some x → m[i]? = some x ∨ (i = m.length ∧ x = (t, a.2 + 1)) := fun {i x} hx => by
      by_cases hi : i < m.length
      · rw [List.getElem?_append_left hi] at hx; exact .inl hx
      · have hil := (List.getElem?_eq_some_iff.1 hx).1
        rw [List.length_append, List.length_singleton] at hil
        obtain rfl : i = m.length := by omega
        simp at hx
        exact .inr ⟨rfl, hx.symm⟩
    have hql : q < m.length := (List.getElem?_eq_some_iff.1 ha).1
    refine ⟨?_, fun x hx => ?_, fun i j x y hij hx hy => ?_, fun i x hi hx b' t' hm' => ?_, fun s hs => ?_, fun x hx y hy => ?_, ?_⟩
    · rw [List.map_append, List.nodup_append]
      refine ⟨h.nd, by simp, fun x hx y hy e => ?_⟩
      simp at hy
      subst hy e
      exact hn hx
    · rcases List.mem_append.1 hx with hx | hx
      · exact h.ds x hx
      · obtain rfl : x = (t, a.2 + 1) := by simpa using hx
        refine ⟨.step haD.1 hm, fun j hj => Nat.lt_of_not_le fun hle => hn (h.near ha j hle hj)⟩
    · rcases hap hx with hx' | ⟨rfl, rfl⟩
      · rcases hap hy with hy' | ⟨rfl, rfl⟩
        · exact h.st i j x y hij hx' hy'
        · exact h.up a ha x (List.mem_of_getElem? hx')
      · rcases hap hy with hy' | ⟨rfl, rfl⟩
        · have := (List.getElem?_eq_some_iff.1 hy').1; omega
        · exact Nat.le_refl _
    · rcases hap hx with hx' | ⟨rfl, rfl⟩
      · rw [List.map_append]; exact List.mem_append.2 (.inl (h.cl i x hi hx' b' t' hm'))
      · omega
    · rw [List.map_append]; exact List.mem_append.2 (.inl (h.it s hs))
    · rw [List.getElem?_append_left hql] at hx
      rw [ha] at hx
      injection hx with hx
      subst hx
      rcases List.mem_append.1 hy with hy | hy
      · exact h.up _ ha y hy
      · obtain rfl : y = (t, a.2 + 1) := by simpa using hy
        exact Nat.le_refl _
    · have := h.ql; simp; omega
/-- When all its moves were taken. -/
theorem Jb.left (h : Jb ini mv m q) {a : Sg × Nat} (ha : m[q]? = some a) (hall : ∀ b t, (true, b, t) ∈ mv a.1 → t ∈ m.map (·.1)) : Jb ini mv m (q + 1) := by
  have hql : q < m.length := (List.getElem?_eq_some_iff.1 ha).1
  refine ⟨h.nd, h.ds, h.st, fun i x hi hx b t hm => ?_, h.it, fun x hx y hy => ?_, hql⟩
  · by_cases e : i = q
    · subst e
      rw [ha] at hx
      injection hx with hx
      subst hx
      exact hall b t hm
    · exact h.cl i x (by omega) hx b t hm
  · have h1 := h.up a ha y hy
    have h2 := h.st q (q + 1) a x (by omega) ha hx
    omega
/-- When all were left, all that can be was met. -/
theorem Jb.all (h : Jb ini mv m q) (hq : m.length ≤ q) : ∀ (k : Nat) {t : Sg}, Reach ini mv k t → t ∈ m.map (·.1) := by
  intro k t hr
  induction hr using Reach.ind with
  | zero hi => exact h.it _ hi
  | step hr hm ih =>
    obtain ⟨⟨s', d⟩, hx, rfl⟩ := List.mem_map.1 ih
    obtain ⟨i, hi, e⟩ := List.getElem_of_mem hx
    exact h.cl i (s', d) (by omega) (by rw [List.getElem?_eq_getElem hi, e]) _ _ hm
theorem Jb.dist (h : Jb ini mv m q) (hq : m.length ≤ q) {s : Sg} {k : Nat} : (s, k) ∈ m ↔ Dist ini mv k s := by
  constructor
  · intro hx; exact h.ds _ hx
  · intro hd
    obtain ⟨⟨s', d⟩, hx, e⟩ := List.mem_map.1 (h.all hq k hd.1)
    simp only at e
    subst e
    obtain rfl := hd.uniq (h.ds _ hx)
    exact hx
end
/-- Where it begins: all are met by no steps. -/
structure J0 (ini : List Sg) (mv : Sg → List (Bool × Bool × Sg)) (done : List Sg) (m : List (Sg × Nat)) : Prop where
  nd : (m.map (·.1)).Nodup
  z : ∀ x ∈ m, x.2 = 0 ∧ x.1 ∈ ini
  it : ∀ s ∈ done, s ∈ m.map (·.1)
theorem J0.zero (ini : List Sg) (mv : Sg → List (Bool × Bool × Sg)) : J0 ini mv [] [] := ⟨by simp, fun x hx => by simp at hx, fun s hs => by simp at hs⟩
theorem J0.more {ini : List Sg} {mv : Sg → List (Bool × Bool × Sg)} {done : List Sg} {m : List (Sg × Nat)} (h : J0 ini mv done m) {s : Sg} (hs : s ∈ ini) : J0 ini mv (done ++ [s]) (meetE m s 0) := by
  unfold meetE
  split
  · rename_i hin
    refine ⟨h.nd, h.z, fun t ht => ?_⟩
    rcases List.mem_append.1 ht with ht | ht
    · exact h.it t ht
    · obtain rfl : t = s := by simpa using ht
      exact hin
  · rename_i hn
    refine ⟨?_, fun x hx => ?_, fun t ht => ?_⟩
    · rw [List.map_append, List.nodup_append]
      refine ⟨h.nd, by simp, fun x hx y hy e => ?_⟩
      simp at hy
      subst hy e
      exact hn hx
    · rcases List.mem_append.1 hx with hx | hx
      · exact h.z x hx
      · obtain rfl : x = (s, 0) := by simpa using hx
        exact ⟨rfl, hs⟩
    · rw [List.map_append]
      rcases List.mem_append.1 ht with ht | ht
      · exact List.mem_append.2 (.inl (h.it t ht))
      · obtain rfl : t = s := by simpa using ht
        simp
theorem J0.done {ini : List Sg} {mv : Sg → List (Bool × Bool × Sg)} {m : List (Sg × Nat)} (h : J0 ini mv ini m) : Jb ini mv m 0 := by
  refine ⟨h.nd, fun x hx => ?_, fun i j a b _ ha hb => ?_, fun i a hi => by omega, h.it, fun a ha x hx => ?_, Nat.zero_le _⟩
  · obtain ⟨h1, h2⟩ := h.z x hx
    rw [h1]
    exact ⟨.zero h2, fun j _ => Nat.zero_le _⟩
  · rw [(h.z a (List.mem_of_getElem? ha)).1]; exact Nat.zero_le _
  · rw [(h.z x hx).1]; exact Nat.zero_le _
/-- What is bad, as far as states have been left: by how few steps. -/
structure Bb (mv : Sg → List (Bool × Bool × Sg)) (m : List (Sg × Nat)) (q : Nat) (bad : Option Nat) : Prop where
  no : bad = none → ∀ (i : Nat) (a : Sg × Nat), i < q → m[i]? = some a → ∀ t, (true, true, t) ∉ mv a.1
  yes : ∀ k, bad = some k → (∃ (i : Nat) (a : Sg × Nat), i < q ∧ m[i]? = some a ∧ a.2 = k ∧ ∃ t, (true, true, t) ∈ mv a.1) ∧ ∀ (i : Nat) (a : Sg × Nat), i < q → m[i]? = some a → (∃ t, (true, true, t) ∈ mv a.1) → k ≤ a.2
theorem Bb.zero (mv : Sg → List (Bool × Bool × Sg)) (m : List (Sg × Nat)) : Bb mv m 0 none := ⟨fun _ i a hi => by omega, fun k e => by cases e⟩
theorem Bb.grow {mv : Sg → List (Bool × Bool × Sg)} {m m' : List (Sg × Nat)} {q : Nat} {bad : Option Nat} (h : Bb mv m q bad) (hp : m <+: m') (hq : q ≤ m.length) : Bb mv m' q bad := by
  have hb : ∀ {i a}, i < q → m'[i]? = some a → m[i]? = some a := fun {i a} hi ha => by
    have h1 : m[i]? = some m[i] := List.getElem?_eq_getElem (by omega)
    rw [pre_at hp h1] at ha
    rw [h1, ha]
  refine ⟨fun e i a hi ha => h.no e i a hi (hb hi ha), fun k e => ?_⟩
  obtain ⟨⟨i, a, h1, h2, h3⟩, h4⟩ := h.yes k e
  exact ⟨⟨i, a, h1, pre_at hp h2, h3⟩, fun i a hi ha => h4 i a hi (hb hi ha)⟩
theorem Bb.next {ini : List Sg} {mv : Sg → List (Bool × Bool × Sg)} {m : List (Sg × Nat)} {q : Nat} {bad : Option Nat} (h : Bb mv m q bad) (hj : Jb ini mv m q) {a : Sg × Nat} (ha : m[q]? = some a) :
    ((∀ t, (true, true, t) ∉ mv a.1) → Bb mv m (q + 1) bad) ∧ ((∃ t, (true, true, t) ∈ mv a.1) → Bb mv m (q + 1) (if bad.isNone then some a.2 else bad)) := by
  refine ⟨fun hno => ⟨fun e i x hi hx t => ?_, fun k e => ?_⟩, fun hyes => ⟨fun e => ?_, fun k e => ?_⟩⟩
  · by_cases hiq : i = q
    · subst hiq
      rw [ha] at hx
      injection hx with hx
      subst hx
      exact hno t
    · exact h.no e i x (by omega) hx t
  · obtain ⟨⟨i, x, h1, h2, h3⟩, h4⟩ := h.yes k e
    refine ⟨⟨i, x, by omega, h2, h3⟩, fun i x hi hx hb => ?_⟩
    by_cases hiq : i = q
    · subst hiq
      rw [ha] at hx
      injection hx with hx
      subst hx
      obtain ⟨t, ht⟩ := hb
      exact absurd ht (hno t)
    · exact h4 i x (by omega) hx hb
  · cases bad with
    | none => simp at e
    | some k => simp at e
  · cases hb : bad with
    | none =>
      rw [hb] at e
      simp at e
      subst e
      refine ⟨⟨q, a, by omega, ha, rfl, hyes⟩, fun i x hi hx hbx => ?_⟩
      by_cases hiq : i = q
      · subst hiq
        rw [ha] at hx
        injection hx with hx
        subst hx
        exact Nat.le_refl _
      · obtain ⟨t, ht⟩ := hbx
        exact absurd ht (h.no hb i x (by omega) hx t)
    | some k' =>
      rw [hb] at e
      simp at e
      subst e
      obtain ⟨⟨i, x, h1, h2, h3, h5⟩, h4⟩ := h.yes k' hb
      refine ⟨⟨i, x, by omega, h2, h3, h5⟩, fun i' x' hi hx hbx => ?_⟩
      by_cases hiq : i' = q
      · subst hiq
        rw [ha] at hx
        injection hx with hx
        subst hx
        rw [← h3]
        exact hj.st i _ x _ (by omega) h2 ha
      · exact h4 i' x' (by omega) hx hbx
end Go.Proofs.YtfobcnhibhbbaaaGreatDoor.Ev.Xp
