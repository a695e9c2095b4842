/- What is found, by both ways: lists alone. -/
import Derived.Test.YtfobcnhibhbbaaaGreatDoorYb
namespace Go.Proofs.YtfobcnhibhbbaaaGreatDoor.Ev.Xp

/-- What is found: how many can be, how far, whether one is bad, and how far that is. -/
structure Fd where
  r : Int
  dp : Int
  bad : Bool
  bdd : Int
theorem Fd.ext {a b : Fd} (h1 : a.r = b.r) (h2 : a.dp = b.dp) (h3 : a.bad = b.bad) (h4 : a.bdd = b.bdd) : a = b := by
  cases a; cases b; simp_all
def Fd.zero : Fd := ⟨0, 0, false, 0⟩
/-- One of a state's moves is looked at. -/
def badN (d : Int) (f : Fd) : List Bool → Fd
  | [] => f
  | b :: r => badN d (if b && (!f.bad || decide (d < f.bdd)) then { f with bad := true, bdd := d } else f) r
/-- The first k states are looked at. -/
def foundN (d : List Int) (bd : Nat → List Bool) : Nat → Fd
  | 0 => .zero
  | k + 1 => if d.getD k 0 < 0 then foundN d bd k else badN (d.getD k 0) { foundN d bd k with r := (foundN d bd k).r + 1, dp := if d.getD k 0 > (foundN d bd k).dp then d.getD k 0 else (foundN d bd k).dp } (bd k)
theorem badN_same (d : Int) (l : List Bool) : ∀ f : Fd, (badN d f l).r = f.r ∧ (badN d f l).dp = f.dp := by
  induction l with
  | nil => intro f; exact ⟨rfl, rfl⟩
  | cons b r ih =>
    intro f
    rw [badN]
    obtain ⟨h1, h2⟩ := ih (if b && (!f.bad || decide (d < f.bdd)) then { f with bad := true, bdd := d } else f)
    rw [h1, h2]
    split <;> exact ⟨rfl, rfl⟩
theorem badN_no (d : Int) (l : List Bool) (h : true ∉ l) : ∀ f : Fd, badN d f l = f := by
  induction l with
  | nil => intro f; rfl
  | cons b r ih =>
    intro f
    cases b with
    | true => simp at h
    | false => rw [badN]; simp; exact ih (fun e => h (by simp [e])) f
theorem badN_yes (d : Int) (l : List Bool) : ∀ f : Fd, (true ∈ l ∨ (f.bad = true ∧ f.bdd ≤ d)) → (badN d f l).bad = true ∧ (badN d f l).bdd = if f.bad = true ∧ f.bdd ≤ d then f.bdd else d := by
  induction l with
  | nil =>
    intro f h
    rcases h with h | h
    · simp at h
    · exact ⟨h.1, by rw [if_pos h]; rfl⟩
  | cons b r ih =>
    intro f h
    rw [badN]
    by_cases hf : f.bad = true ∧ f.bdd ≤ d
    · have hc : (b && (!f.bad || decide (d < f.bdd))) = false := by
        rw [hf.1]; simp; intro _; omega
      rw [hc]
      simp only [Bool.false_eq_true, if_false]
      obtain ⟨h1, h2⟩ := ih f (.inr hf)
      exact ⟨h1, h2⟩
    · have hor : (!f.bad || decide (d < f.bdd)) = true := by
        cases hb : f.bad
        · simp
        · simp; rw [hb] at hf; simp at hf; exact hf
      rw [hor, Bool.and_true]
      cases b with
      | false =>
        simp only [Bool.false_eq_true, if_false]
        have : true ∈ r := by
          rcases h with h | h
          · simpa using h
          · exact absurd h hf
        exact ih f (.inl this)
      | true =>
        simp only [if_true]
        obtain ⟨h1, h2⟩ := ih { f with bad := true, bdd := d } (.inr ⟨rfl, Int.le_refl _⟩)
        refine ⟨h1, ?_⟩
        rw [h2, if_pos ⟨rfl, Int.le_refl _⟩, if_neg hf]
/-- What is known of it. -/
structure Fk (d : List Int) (bd : Nat → List Bool) (k : Nat) (f : Fd) : Prop where
  r : f.r = ((List.range k).filter (fun s => decide (0 ≤ d.getD s 0))).length
  up : ∀ s, s < k → d.getD s 0 ≤ f.dp
  dp : (f.dp = 0) ∨ ∃ s, s < k ∧ d.getD s 0 = f.dp ∧ 0 ≤ f.dp
  d0 : 0 ≤ f.dp
  no : f.bad = false → f.bdd = 0 ∧ ∀ s, s < k → 0 ≤ d.getD s 0 → true ∉ bd s
  yes : f.bad = true → (∃ s, s < k ∧ d.getD s 0 = f.bdd ∧ 0 ≤ f.bdd ∧ true ∈ bd s) ∧ ∀ s, s < k → 0 ≤ d.getD s 0 → true ∈ bd s → f.bdd ≤ d.getD s 0
theorem found_fk (d : List Int) (bd : Nat → List Bool) : ∀ k, Fk d bd k (foundN d bd k) := by
  intro k
  induction k with
  | zero => exact ⟨rfl, fun s hs => by omega, .inl rfl, Int.le_refl _, fun _ => ⟨rfl, fun s hs => by omega⟩, fun e => by cases e⟩
  | succ k ih =>
    have hlt : ∀ {s}, s < k + 1 → s < k ∨ s = k := fun {s} h => by omega
    rw [foundN]
    generalize foundN d bd k = f at ih
    by_cases hn : d.getD k 0 < 0
    · rw [if_pos hn]
      refine ⟨?_, fun s hs => ?_, ?_, ih.d0, fun e => ⟨(ih.no e).1, fun s hs h0 => ?_⟩, fun e => ?_⟩
      · rw [List.range_succ, List.filter_append, ih.r]
        have : decide (0 ≤ d.getD k 0) = false := decide_eq_false (by omega)
        simp only [List.filter_cons, List.filter_nil, this, Bool.false_eq_true, if_false, List.append_nil]
      · rcases hlt hs with hs | rfl
        · exact ih.up s hs
        · have := ih.d0; omega
      · rcases ih.dp with h | ⟨s, h1, h2⟩
        · exact .inl h
        · exact .inr ⟨s, by omega, h2⟩
      · rcases hlt hs with hs | rfl
        · exact (ih.no e).2 s hs h0
        · omega
      · obtain ⟨⟨s, h1, h2⟩, h3⟩ := ih.yes e
        refine ⟨⟨s, by omega, h2⟩, fun s hs h0 => ?_⟩
        rcases hlt hs with hs | rfl
        · exact h3 s hs h0
        · omega
    · rw [if_neg hn]
      have h0 : 0 ≤ d.getD k 0 := by omega
      generalize hdk : d.getD k 0 = dk at *
      obtain ⟨s1, s2⟩ := badN_same dk (bd k) { f with r := f.r + 1, dp := if dk > f.dp then dk else f.dp }
      have hr : (badN dk { f with r := f.r + 1, dp := if dk > f.dp then dk else f.dp } (bd k)).r = ((List.range (k + 1)).filter (fun s => decide (0 ≤ d.getD s 0))).length := by
        rw [s1, List.range_succ, List.filter_append]
        have : decide (0 ≤ d.getD k 0) = true := decide_eq_true (by rw [hdk]; exact h0)
        simp only [ih.r, List.filter_cons, List.filter_nil, this, if_true, List.length_append, List.length_singleton]
        omega
      have hdp : ∀ s, s < k + 1 → d.getD s 0 ≤ if dk > f.dp then dk else f.dp := fun s hs => by
        rcases hlt hs with hs | rfl
        · have := ih.up s hs; split <;> omega
        · rw [hdk]; split <;> omega
      have hdx : (if dk > f.dp then dk else f.dp) = 0 ∨ ∃ s, s < k + 1 ∧ d.getD s 0 = (if dk > f.dp then dk else f.dp) ∧ 0 ≤ (if dk > f.dp then dk else f.dp) := by
        split
        · exact .inr ⟨k, by omega, hdk, h0⟩
        · rcases ih.dp with h | ⟨s, h1, h2⟩
          · exact .inl h
          · exact .inr ⟨s, by omega, h2⟩
      have hd0 : 0 ≤ (if dk > f.dp then dk else f.dp) := by have := ih.d0; split <;> omega
      by_cases hb : true ∈ bd k
      · obtain ⟨b1, b2⟩ := badN_yes dk (bd k) { f with r := f.r + 1, dp := if dk > f.dp then dk else f.dp } (.inl hb)
        simp only at b2
        refine ⟨hr, fun s hs => by rw [s2]; exact hdp s hs, by rw [s2]; exact hdx, by rw [s2]; exact hd0, fun e => (by rw [b1] at e; cases e), fun _ => ?_⟩
        rw [b2]
        by_cases hf : f.bad = true ∧ f.bdd ≤ dk
        · rw [if_pos hf]
          obtain ⟨⟨s, h1, h2⟩, h3⟩ := ih.yes hf.1
          refine ⟨⟨s, by omega, h2⟩, fun s hs h4 h5 => ?_⟩
          rcases hlt hs with hs | rfl
          · exact h3 s hs h4 h5
          · rw [hdk]; exact hf.2
        · rw [if_neg hf]
          refine ⟨⟨k, by omega, hdk, h0, hb⟩, fun s hs h4 h5 => ?_⟩
          rcases hlt hs with hs | rfl
          · cases hfb : f.bad
            · exact absurd h5 ((ih.no hfb).2 s hs h4)
            · have := (ih.yes hfb).2 s hs h4 h5
              have : ¬ f.bdd ≤ dk := fun e => hf ⟨hfb, e⟩
              omega
          · omega
      · rw [badN_no dk (bd k) hb] at hr s2 ⊢
        refine ⟨hr, hdp, hdx, hd0, fun e => ⟨(ih.no e).1, fun s hs h4 => ?_⟩, fun e => ?_⟩
        · rcases hlt hs with hs | rfl
          · exact (ih.no e).2 s hs h4
          · exact hb
        · obtain ⟨⟨s, h1, h2⟩, h3⟩ := ih.yes e
          refine ⟨⟨s, by omega, h2⟩, fun s hs h4 h5 => ?_⟩
          rcases hlt hs with hs | rfl
          · exact h3 s hs h4 h5
          · exact absurd h5 hb
/-- What the code finds. -/
def foundE (m : List (Sg × Nat)) (bad : Option Nat) : Fd := ⟨m.length, (match m.getLast? with | some x => (x.2 : Int) | none => 0), bad.isSome, (match bad with | some k => (k : Int) | none => 0)⟩
/-- Both find the same. -/
theorem found_same {N : Nat} {W : Nat → Sg} {bs : Nat → Nat} {nx : Nat → List Int} {ini : List Sg} {mv : Sg → List (Bool × Bool × Sg)} (h : Tells N W bs nx ini mv) {m : List (Sg × Nat)} {bad : Option Nat} {q : Nat} (hj : Jb ini mv m q) (hb : Bb mv m q bad) (hq : m.length ≤ q) (bd : Nat → List Bool) (hbd : ∀ s, s < N → (true ∈ bd s ↔ ∃ t, (true, true, t) ∈ mv (W s))) :
    foundN (layN N nx (iniN bs (List.replicate N (-1)) N) N) bd N = foundE m bad := by
  have hk := found_fk (layN N nx (iniN bs (List.replicate N (-1)) N) N) bd N
  have hall := fun {x} (hx : x < N) => lay_all h hx
  generalize layN N nx (iniN bs (List.replicate N (-1)) N) N = d at *
  have hin : ∀ {s k}, (s, k) ∈ m ↔ Dist ini mv k s := fun {s k} => hj.dist hq
  have hdw : ∀ {x}, x < N → ∀ k : Nat, d.getD x 0 = k ↔ (W x, k) ∈ m := fun {x} hx k => by
    rcases hall hx with ⟨h1, h2⟩ | ⟨l, h1, h2⟩
    · constructor
      · intro e; omega
      · intro e; exact absurd (hin.1 e).1 (h2 k)
    · constructor
      · intro e
        obtain rfl : l = k := by omega
        exact hin.2 h2
      · intro e
        obtain rfl := h2.uniq (hin.1 e)
        exact h1
  have hnum : ∀ {s k}, (s, k) ∈ m → ∃ x, x < N ∧ s = W x ∧ d.getD x 0 = k := fun {s k} hm => by
    obtain ⟨x, hx, rfl⟩ := h.num (hin.1 hm).1
    exact ⟨x, hx, rfl, (hdw hx k).2 hm⟩
  have hnn : ∀ {x}, x < N → 0 ≤ d.getD x 0 → ∃ k : Nat, d.getD x 0 = k ∧ (W x, k) ∈ m := fun {x} hx h0 => ⟨(d.getD x 0).toNat, by omega, (hdw hx _).1 (by omega)⟩
  have hsort : ∀ {i j : Nat} {a b : Sg × Nat}, i ≤ j → m[i]? = some a → m[j]? = some b → a.2 ≤ b.2 := fun {i j a b} => hj.st i j a b
  refine Fd.ext ?_ ?_ ?_ ?_
  · rw [hk.r]
    show _ = ((m.length : Nat) : Int)
    congr 1
    have hp : (((List.range N).filter (fun s => decide (0 ≤ d.getD s 0))).map W).Perm (m.map (·.1)) := by
      rw [List.perm_ext_iff_of_nodup ?_ hj.nd]
      · intro s
        constructor
        · intro hs
          obtain ⟨x, hx, rfl⟩ := List.mem_map.1 hs
          obtain ⟨h1, h2⟩ := List.mem_filter.1 hx
          obtain ⟨k, _, hm⟩ := hnn (List.mem_range.1 h1) (by simpa using h2)
          exact List.mem_map.2 ⟨_, hm, rfl⟩
        · intro hs
          obtain ⟨⟨s', k⟩, hm, rfl⟩ := List.mem_map.1 hs
          obtain ⟨x, hx, e, hd⟩ := hnum hm
          exact List.mem_map.2 ⟨x, List.mem_filter.2 ⟨List.mem_range.2 hx, by rw [hd]; simp⟩, e.symm⟩
      · rw [List.nodup_iff_pairwise_ne, List.pairwise_map]
        refine List.Pairwise.imp_of_mem ?_ (List.nodup_range.filter _)
        intro a b ha hb' hne e
        exact hne (h.inj a b (List.mem_range.1 (List.mem_filter.1 ha).1) (List.mem_range.1 (List.mem_filter.1 hb').1) e)
    have := hp.length_eq
    simpa using this
  · show _ = (match m.getLast? with | some x => (x.2 : Int) | none => 0)
    cases hm : m.getLast? with
    | none =>
      have hm0 : m = [] := List.getLast?_eq_none_iff.1 hm
      rcases hk.dp with h1 | ⟨s, h1, h2, h3⟩
      · exact h1
      · obtain ⟨k, _, hmm⟩ := hnn h1 (by omega)
        rw [hm0] at hmm
        simp at hmm
    | some x =>
      simp only
      have hl : m[m.length - 1]? = some x := by rw [← List.getLast?_eq_getElem?]; exact hm
      have hxm : x ∈ m := List.mem_of_getElem? hl
      obtain ⟨y, hy, e, hd⟩ := hnum (s := x.1) (k := x.2) hxm
      have h1 := hk.up y hy
      rw [hd] at h1
      rcases hk.dp with h2 | ⟨s, h2, h3, h4⟩
      · omega
      · obtain ⟨k, hk', hmm⟩ := hnn h2 (by omega)
        obtain ⟨i, hi, ei⟩ := List.getElem_of_mem hmm
        have := hsort (i := i) (j := m.length - 1) (by omega) (by rw [List.getElem?_eq_getElem hi, ei]) hl
        simp only at this
        omega
  · show _ = bad.isSome
    cases hbd' : bad with
    | none =>
      cases hfb : (foundN d bd N).bad
      · rfl
      · obtain ⟨⟨s, h1, h2, h3, h4⟩, _⟩ := hk.yes hfb
        obtain ⟨k, _, hmm⟩ := hnn h1 (by omega)
        obtain ⟨i, hi, ei⟩ := List.getElem_of_mem hmm
        obtain ⟨t, ht⟩ := (hbd s h1).1 h4
        exact absurd ht (hb.no hbd' i (W s, k) (by omega) (by rw [List.getElem?_eq_getElem hi, ei]) t)
    | some k =>
      obtain ⟨⟨i, a, h1, h2, h3, t, ht⟩, _⟩ := hb.yes k hbd'
      obtain ⟨x, hx, e, hd⟩ := hnum (s := a.1) (k := a.2) (List.mem_of_getElem? h2)
      cases hfb : (foundN d bd N).bad
      · exfalso
        refine (hk.no hfb).2 x hx (by rw [hd]; omega) ((hbd x hx).2 ⟨t, by rw [← e]; exact ht⟩)
      · rfl
  · show _ = (match bad with | some k => (k : Int) | none => 0)
    cases hbd' : bad with
    | none =>
      cases hfb : (foundN d bd N).bad
      · exact (hk.no hfb).1
      · obtain ⟨⟨s, h1, h2, h3, h4⟩, _⟩ := hk.yes hfb
        obtain ⟨k, _, hmm⟩ := hnn h1 (by omega)
        obtain ⟨i, hi, ei⟩ := List.getElem_of_mem hmm
        obtain ⟨t, ht⟩ := (hbd s h1).1 h4
        exact absurd ht (hb.no hbd' i (W s, k) (by omega) (by rw [List.getElem?_eq_getElem hi, ei]) t)
    | some k =>
      simp only
      obtain ⟨⟨i, a, h1, h2, h3, t, ht⟩, hmin⟩ := hb.yes k hbd'
      obtain ⟨x, hx, e, hd⟩ := hnum (s := a.1) (k := a.2) (List.mem_of_getElem? h2)
      have hbx : true ∈ bd x := (hbd x hx).2 ⟨t, by rw [← e]; exact ht⟩
      cases hfb : (foundN d bd N).bad
      · exact absurd hbx ((hk.no hfb).2 x hx (by rw [hd]; omega))
      · obtain ⟨⟨s, g1, g2, g3, g4⟩, g5⟩ := hk.yes hfb
        have l1 := g5 x hx (by rw [hd]; omega) hbx
        obtain ⟨k', g6, hmm⟩ := hnn g1 (by omega)
        obtain ⟨j, hj', ej⟩ := List.getElem_of_mem hmm
        have l2 := hmin j (W s, k') (by omega) (by rw [List.getElem?_eq_getElem hj', ej]) ((hbd s g1).1 g4)
        simp only at l2
        omega
end Go.Proofs.YtfobcnhibhbbaaaGreatDoor.Ev.Xp
