/- Layer by layer, over the states' numbers: lists alone. -/
import Derived.Test.YtfobcnhibhbbaaaGreatDoorYaM
namespace Go.Proofs.YtfobcnhibhbbaaaGreatDoor.Ev.Xp

theorem getD_set {d : List Int} {i j : Nat} {v : Int} (hi : i < d.length) : (d.set i v).getD j 0 = if j = i then v else d.getD j 0 := by
  simp only [List.getD, List.getElem?_set]
  by_cases e : i = j
  · subst e; simp [hi]
  · have e' : ¬ j = i := fun h => e h.symm
    simp [e, e']
/-- Where one comes to by a state's moves is as far as that and one. -/
def tosN (n : Int) (d : List Int) : List Int → List Int
  | [] => d
  | to :: r => tosN n (if 0 ≤ to ∧ d.getD to.toNat 0 < 0 then d.set to.toNat (n + 1) else d) r
/-- One layer, of the first k states. -/
def rowN (nx : Nat → List Int) (n : Int) (d : List Int) : Nat → List Int
  | 0 => d
  | k + 1 => if (rowN nx n d k).getD k 0 ≠ n then rowN nx n d k else tosN n (rowN nx n d k) (nx k)
/-- The first k layers. -/
def layN (N : Nat) (nx : Nat → List Int) (d : List Int) : Nat → List Int
  | 0 => d
  | k + 1 => rowN nx k (layN N nx d k) N
/-- Where it begins: by the first k wishes. -/
def iniN (bs : Nat → Nat) (d : List Int) : Nat → List Int
  | 0 => d
  | k + 1 => (iniN bs d k).set (bs k) 0
/-- The numbers tell the states, and their moves. -/
structure Tells (N : Nat) (W : Nat → Sg) (bs : Nat → Nat) (nx : Nat → List Int) (ini : List Sg) (mv : Sg → List (Bool × Bool × Sg)) : Prop where
  inj : ∀ a b, a < N → b < N → W a = W b → a = b
  i0 : ∀ t, t ∈ ini ↔ ∃ s, s < N ∧ t = W (bs s)
  b0 : ∀ s, s < N → bs s < N
  n0 : ∀ s, s < N → ∀ t, t < N → ((t : Int) ∈ nx s ↔ ∃ b, (true, b, W t) ∈ mv (W s))
  cl : ∀ s, s < N → ∀ b t, (true, b, t) ∈ mv (W s) → ∃ u, u < N ∧ t = W u
  rg : ∀ s, s < N → ∀ x ∈ nx s, x < N
/-- What is known of the layers up to the n-th. -/
structure Ly (N : Nat) (W : Nat → Sg) (ini : List Sg) (mv : Sg → List (Bool × Bool × Sg)) (n : Nat) (d : List Int) : Prop where
  len : d.length = N
  at' : ∀ x, x < N → (d.getD x 0 = -1 ∧ ∀ k, k ≤ n → ¬ Reach ini mv k (W x)) ∨ ∃ k : Nat, k ≤ n ∧ d.getD x 0 = k ∧ Dist ini mv k (W x)
section
variable {N : Nat} {W : Nat → Sg} {bs : Nat → Nat} {nx : Nat → List Int} {ini : List Sg} {mv : Sg → List (Bool × Bool × Sg)}
theorem Tells.num (h : Tells N W bs nx ini mv) {k : Nat} {t : Sg} (hr : Reach ini mv k t) : ∃ u, u < N ∧ t = W u := by
  induction hr using Reach.ind with
  | zero hi =>
    obtain ⟨s, hs, rfl⟩ := (h.i0 _).1 hi
    exact ⟨_, h.b0 s hs, rfl⟩
  | step _ hm ih =>
    obtain ⟨u, hu, rfl⟩ := ih
    exact h.cl u hu _ _ hm
theorem ini_ly (h : Tells N W bs nx ini mv) : Ly N W ini mv 0 (iniN bs (List.replicate N (-1)) N) := by
  have hk : ∀ k, k ≤ N → (iniN bs (List.replicate N (-1)) k).length = N ∧ ∀ x, x < N → ((∃ s, s < k ∧ bs s = x) ∧ (iniN bs (List.replicate N (-1)) k).getD x 0 = 0) ∨ ((∀ s, s < k → bs s ≠ x) ∧ (iniN bs (List.replicate N (-1)) k).getD x 0 = -1) := by
    intro k
    induction k with
    | zero => exact fun _ => ⟨by simp [iniN], fun x hx => .inr ⟨fun s hs => by omega, by simp [iniN, List.getD, hx]⟩⟩
    | succ k ih =>
      intro hk
      obtain ⟨h1, h2⟩ := ih (by omega)
      have hb := h.b0 k (by omega)
      refine ⟨by simp [iniN, h1], fun x hx => ?_⟩
      rw [iniN, getD_set (by rw [h1]; exact hb)]
      by_cases e : x = bs k
      · exact .inl ⟨⟨k, by omega, e.symm⟩, by rw [if_pos e]⟩
      · rw [if_neg e]
        rcases h2 x hx with ⟨⟨s, hs, hsx⟩, hd⟩ | ⟨hs, hd⟩
        · exact .inl ⟨⟨s, by omega, hsx⟩, hd⟩
        · refine .inr ⟨fun s hsk => ?_, hd⟩
          by_cases e2 : s = k
          · subst e2; exact fun e3 => e e3.symm
          · exact hs s (by omega)
  obtain ⟨h1, h2⟩ := hk N (Nat.le_refl _)
  refine ⟨h1, fun x hx => ?_⟩
  rcases h2 x hx with ⟨⟨s, hs, hsx⟩, hd⟩ | ⟨hs, hd⟩
  · exact .inr ⟨0, Nat.le_refl _, hd, .zero ((h.i0 _).2 ⟨s, hs, by rw [hsx]⟩), fun _ _ => Nat.zero_le _⟩
  · refine .inl ⟨hd, fun k hk hr => ?_⟩
    obtain rfl : k = 0 := by omega
    have hi : _ ∈ ini := hr
    focus
      obtain ⟨s, hs', e⟩ := (h.i0 _).1 hi
      exact hs s hs' (h.inj _ _ hx (h.b0 s hs') e).symm
/-- While a layer is made: what was before, and what is new. -/
structure Lm (N : Nat) (W : Nat → Sg) (ini : List Sg) (mv : Sg → List (Bool × Bool × Sg)) (n : Nat) (d0 d : List Int) : Prop where
  len : d.length = N
  at' : ∀ x, x < N → d.getD x 0 = d0.getD x 0 ∨ (d0.getD x 0 = -1 ∧ d.getD x 0 = ((n + 1 : Nat) : Int) ∧ Reach ini mv (n + 1) (W x))
theorem tos_lm (h : Tells N W bs nx ini mv) {n s : Nat} (hs : s < N) (hr : Reach ini mv n (W s)) {d0 : List Int} (hl : Ly N W ini mv n d0) (l : List Int) : ∀ {d : List Int}, Lm N W ini mv n d0 d → (∀ x ∈ l, x ∈ nx s) → Lm N W ini mv n d0 (tosN n d l) ∧ (∀ x, x < N → d.getD x 0 ≠ -1 → (tosN n d l).getD x 0 ≠ -1) ∧ ∀ t : Nat, t < N → (t : Int) ∈ l → (tosN n d l).getD t 0 ≠ -1 := by
  induction l with
  | nil => intro d hd _; exact ⟨hd, fun x _ hx => hx, fun t _ ht => by simp at ht⟩
  | cons to r ih =>
    intro d hd hin
    have hto := hin to (by simp)
    have hnr : ∀ y, y < N → d.getD y 0 = -1 → d0.getD y 0 = -1 := fun y hy e => by
      rcases hd.at' y hy with h1 | ⟨h1, _, _⟩
      · rw [← h1]; exact e
      · exact h1
    unfold tosN
    by_cases hc : 0 ≤ to ∧ d.getD to.toNat 0 < 0
    · rw [if_pos hc]
      have htn : to.toNat < N := by have := h.rg s hs to hto; omega
      have htl : to.toNat < d.length := by rw [hd.len]; exact htn
      have hte : ((to.toNat : Nat) : Int) = to := by omega
      have hneg : d.getD to.toNat 0 = -1 := by
        rcases hd.at' _ htn with h1 | ⟨_, h2, _⟩
        · rcases hl.at' _ htn with ⟨h3, _⟩ | ⟨k, _, h3, _⟩
          · rw [h1, h3]
          · rw [h1, h3] at hc; omega
        · rw [h2] at hc; omega
      have hd2 : Lm N W ini mv n d0 (d.set to.toNat ((n : Int) + 1)) := by
        refine ⟨by rw [List.length_set]; exact hd.len, fun x hx => ?_⟩
        rw [getD_set htl]
        by_cases e : x = to.toNat
        · rw [if_pos e]
          refine .inr ⟨by rw [e]; exact hnr _ htn hneg, by omega, ?_⟩
          obtain ⟨b, hb⟩ := (h.n0 s hs x hx).1 (by rw [e, hte]; exact hto)
          exact .step hr hb
        · rw [if_neg e]; exact hd.at' x hx
      obtain ⟨a1, a2, a3⟩ := ih hd2 (fun x hx => hin x (by simp [hx]))
      refine ⟨a1, fun x hx hne => a2 x hx ?_, fun t ht hm => ?_⟩
      · rw [getD_set htl]; split
        · omega
        · exact hne
      · rcases List.mem_cons.1 hm with e | hm
        · refine a2 t ht ?_
          rw [getD_set htl, if_pos (by omega)]
          omega
        · exact a3 t ht hm
    · rw [if_neg hc]
      obtain ⟨a1, a2, a3⟩ := ih hd (fun x hx => hin x (by simp [hx]))
      refine ⟨a1, a2, fun t ht hm => ?_⟩
      rcases List.mem_cons.1 hm with e | hm
      · refine a2 t ht fun e2 => hc ⟨by omega, ?_⟩
        rw [← e, Int.toNat_natCast, e2]; omega
      · exact a3 t ht hm
theorem row_lm (h : Tells N W bs nx ini mv) {n : Nat} {d0 : List Int} (hl : Ly N W ini mv n d0) : ∀ k, k ≤ N → Lm N W ini mv n d0 (rowN nx n d0 k) ∧ ∀ s, s < k → d0.getD s 0 = n → ∀ t : Nat, t < N → (t : Int) ∈ nx s → (rowN nx n d0 k).getD t 0 ≠ -1 := by
  intro k
  induction k with
  | zero => exact fun _ => ⟨⟨hl.len, fun x _ => .inl rfl⟩, fun s hs => by omega⟩
  | succ k ih =>
    intro hk
    obtain ⟨h1, h2⟩ := ih (by omega)
    unfold rowN
    have hkn : k < N := by omega
    by_cases hc : (rowN nx n d0 k).getD k 0 ≠ n
    · rw [if_pos hc]
      refine ⟨h1, fun s hs e t ht hm => ?_⟩
      by_cases esk : s = k
      · subst esk
        exfalso
        rcases h1.at' s hkn with h3 | ⟨h3, _⟩
        · exact hc (h3.trans e)
        · omega
      · exact h2 s (by omega) e t ht hm
    · rw [if_neg hc]
      have hc' : (rowN nx n d0 k).getD k 0 = n := Classical.not_not.1 hc
      have hd0 : d0.getD k 0 = n := by
        rcases h1.at' k hkn with h3 | ⟨_, h3, _⟩
        · rw [← h3]; exact hc'
        · omega
      have hr : Reach ini mv n (W k) := by
        rcases hl.at' k hkn with ⟨h3, _⟩ | ⟨j, _, h3, h4⟩
        · omega
        · obtain rfl : j = n := by omega
          exact h4.1
      obtain ⟨a1, a2, a3⟩ := tos_lm h hkn hr hl (nx k) h1 (fun _ hx => hx)
      refine ⟨a1, fun s hs e t ht hm => ?_⟩
      by_cases esk : s = k
      · subst esk; exact a3 t ht hm
      · exact a2 t ht (h2 s (by omega) e t ht hm)
theorem row_ly (h : Tells N W bs nx ini mv) {n : Nat} {d0 : List Int} (hl : Ly N W ini mv n d0) : Ly N W ini mv (n + 1) (rowN nx n d0 N) := by
  obtain ⟨h1, h2⟩ := row_lm h hl N (Nat.le_refl _)
  refine ⟨h1.len, fun x hx => ?_⟩
  rcases h1.at' x hx with h3 | ⟨h3, h4, h5⟩
  · rcases hl.at' x hx with ⟨h6, h7⟩ | ⟨k, hk, h6, h7⟩
    · refine .inl ⟨h3.trans h6, fun k hk hr => ?_⟩
      by_cases hkn : k ≤ n
      · exact h7 k hkn hr
      · obtain rfl : k = n + 1 := by omega
        generalize hWx : W x = wx at hr
        obtain ⟨s, b, hr, hm⟩ := hr
        focus
          obtain ⟨u, hu, rfl⟩ := h.num hr
          obtain ⟨j, hj, hD⟩ := reach_dist n hr
          have hmem : (x : Int) ∈ nx u := (h.n0 u hu x hx).2 ⟨b, by rw [hWx]; exact hm⟩
          by_cases hjn : j = n
          · subst hjn
            rcases hl.at' u hu with ⟨_, h8⟩ | ⟨k, _, h8, h9⟩
            · exact h8 j (Nat.le_refl _) hD.1
            · obtain rfl := h9.uniq hD
              exact h2 u hu h8 x hx hmem (h3.trans h6)
          · exact h7 (j + 1) (by omega) (by rw [hWx]; exact .step hD.1 hm)
    · exact .inr ⟨k, by omega, h3.trans h6, h7⟩
  · refine .inr ⟨n + 1, Nat.le_refl _, h4, h5, fun j hj => Nat.lt_of_not_le fun hle => ?_⟩
    rcases hl.at' x hx with ⟨_, h7⟩ | ⟨k, _, h6, _⟩
    · exact h7 j hle hj
    · omega
theorem lay_ly (h : Tells N W bs nx ini mv) : ∀ k, Ly N W ini mv k (layN N nx (iniN bs (List.replicate N (-1)) N) k) := by
  intro k
  induction k with
  | zero => exact ini_ly h
  | succ k ih => exact row_ly h ih
theorem filter_both {α : Type} (p : α → Bool) (l : List α) : l.length = (l.filter p).length + (l.filter fun x => !p x).length := by
  induction l with
  | nil => rfl
  | cons a l ih => cases h : p a <;> simp [h] <;> omega
theorem nodup_nat : ∀ (n : Nat) (l : List Nat), l.Nodup → (∀ x ∈ l, x < n) → l.length ≤ n
  | 0, l, _, hx => by
    cases l with
    | nil => simp
    | cons a l => exact absurd (hx a (by simp)) (by omega)
  | n + 1, l, hn, hx => by
    have h1 := nodup_nat n (l.filter (fun x => x != n)) (hn.filter _) (fun x hxm => by
      obtain ⟨h1, h2⟩ := List.mem_filter.1 hxm
      have := hx x h1
      simp at h2
      omega)
    have h2 : l.length ≤ (l.filter (fun x => x != n)).length + 1 := by
      have h3 : (l.filter (fun x => x == n)).length ≤ 1 := by
        have hf := hn.filter (fun x => x == n)
        have ha : ∀ x ∈ l.filter (fun x => x == n), x = n := fun x hx => by simpa using (List.mem_filter.1 hx).2
        generalize l.filter (fun x => x == n) = m at hf ha
        match m, hf, ha with
        | [], _, _ => simp
        | [_], _, _ => simp
        | a :: b :: r, hf, ha =>
          have e1 := ha a (by simp)
          have e2 := ha b (by simp)
          simp [e1, e2] at hf
      have h4 := filter_both (fun x => x == n) l
      have h5 : (l.filter (fun x => !(x == n))).length = (l.filter (fun x => x != n)).length := rfl
      omega
    omega
/-- Each nearer layer has a state. -/
theorem dist_down {k : Nat} {s : Sg} (h : Dist ini mv k s) : ∀ j, j ≤ k → ∃ t, Dist ini mv j t := by
  induction k generalizing s with
  | zero =>
    intro j hj
    obtain rfl : j = 0 := by omega
    exact ⟨s, h⟩
  | succ k ih =>
    intro j hj
    by_cases e : j = k + 1
    · subst e; exact ⟨s, h⟩
    · obtain ⟨hr, hmin⟩ := h
      obtain ⟨u, b, hr, hm⟩ := hr
      focus
        have hu : Dist ini mv k u := ⟨hr, fun i hi => by have := hmin (i + 1) (.step hi hm); omega⟩
        exact ih hu j (by omega)
/-- All that can be is nearer than there are states. -/
theorem dist_lt (h : Tells N W bs nx ini mv) {k : Nat} {s : Sg} (hD : Dist ini mv k s) : k < N := by
  have hex : ∀ j, j ≤ k → ∃ u, u < N ∧ Dist ini mv j (W u) := fun j hj => by
    obtain ⟨t, ht⟩ := dist_down hD j hj
    obtain ⟨u, hu, rfl⟩ := h.num ht.1
    exact ⟨u, hu, ht⟩
  have hf : ∀ j, ∃ u, j ≤ k → u < N ∧ Dist ini mv j (W u) := fun j => by
    by_cases hj : j ≤ k
    · obtain ⟨u, hu⟩ := hex j hj; exact ⟨u, fun _ => hu⟩
    · exact ⟨0, fun h => absurd h hj⟩
  obtain ⟨f, hf⟩ : ∃ f : Nat → Nat, ∀ j, j ≤ k → f j < N ∧ Dist ini mv j (W (f j)) := ⟨fun j => Classical.choose (hf j), fun j hj => Classical.choose_spec (hf j) hj⟩
  have hinj : ((List.range (k + 1)).map f).Nodup := by
    rw [List.nodup_iff_pairwise_ne, List.pairwise_map]
    refine List.Pairwise.imp_of_mem ?_ List.nodup_range
    intro a b ha hb hne e
    have h1 := hf a (by have := List.mem_range.1 ha; omega)
    have h2 := hf b (by have := List.mem_range.1 hb; omega)
    rw [← e] at h2
    exact hne (h1.2.uniq h2.2)
  have := nodup_nat N _ hinj (fun x hx => by
    obtain ⟨j, hj, rfl⟩ := List.mem_map.1 hx
    exact (hf j (by have := List.mem_range.1 hj; omega)).1)
  simp at this
  omega
/-- How far each state is, when all layers were made. -/
theorem lay_all (h : Tells N W bs nx ini mv) {x : Nat} (hx : x < N) : ((layN N nx (iniN bs (List.replicate N (-1)) N) N).getD x 0 = -1 ∧ ∀ k, ¬ Reach ini mv k (W x)) ∨ ∃ k : Nat, (layN N nx (iniN bs (List.replicate N (-1)) N) N).getD x 0 = k ∧ Dist ini mv k (W x) := by
  rcases (lay_ly h N).at' x hx with ⟨h1, h2⟩ | ⟨k, _, h1, h2⟩
  · refine .inl ⟨h1, fun k hr => ?_⟩
    obtain ⟨d, _, hD⟩ := reach_dist k hr
    exact h2 d (Nat.le_of_lt (dist_lt h hD)) hD.1
  · exact .inr ⟨k, h1, h2⟩
end
end Go.Proofs.YtfobcnhibhbbaaaGreatDoor.Ev.Xp
