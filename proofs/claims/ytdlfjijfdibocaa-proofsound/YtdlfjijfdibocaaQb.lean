/- The plain text of what follows: what is left of a clause; the invariant. Lists alone. -/
import Derived.Test.YtdlfjijfdibocaaUg
namespace Go.Proofs.Ytdlfjijfdibocaa.Pf

def Settled (so : List Int) (n : Int) : Prop := n ∈ so ∨ -n ∈ so
/-- What is left of a clause's first numbers, and how many of them. -/
def cntK (so l : List Int) : Nat → Int × Nat
  | 0 => (0, 0)
  | k + 1 => if l.getD k 0 ∈ so ∨ -(l.getD k 0) ∈ so ∨ l.getD k 0 = (cntK so l k).1 then cntK so l k else (l.getD k 0, (cntK so l k).2 + 1)
theorem cntK_le (so l : List Int) (k : Nat) : (cntK so l k).2 ≤ k := by
  induction k with
  | zero => simp [cntK]
  | succ k ih =>
    unfold cntK
    split
    · omega
    · simp only; omega
structure CntF (so l : List Int) (k : Nat) (s : Int × Nat) : Prop where
  f0 : s.2 = 0 → s.1 = 0 ∧ ∀ j, j < k → Settled so (l.getD j 0)
  f1 : 1 ≤ s.2 → ∃ j, j < k ∧ l.getD j 0 = s.1 ∧ ¬ Settled so s.1
  f2 : s.2 = 1 → ∀ j, j < k → l.getD j 0 = s.1 ∨ Settled so (l.getD j 0)
  f3 : 2 ≤ s.2 → ∃ i j, i < k ∧ j < k ∧ l.getD i 0 ≠ l.getD j 0 ∧ ¬ Settled so (l.getD i 0) ∧ ¬ Settled so (l.getD j 0)
theorem cnt_ok {so l : List Int} (hl : ∀ x ∈ l, x ≠ 0) : ∀ k, k ≤ l.length → CntF so l k (cntK so l k) := by
  intro k
  induction k with
  | zero => intro _; exact ⟨fun _ => ⟨rfl, fun j hj => by omega⟩, fun h => by simp [cntK] at h, fun h => by simp [cntK] at h, fun h => by simp [cntK] at h⟩
  | succ k ih =>
    intro hk
    have h := ih (by omega)
    have hn : l.getD k 0 ≠ 0 := by
      have : k < l.length := by omega
      rw [List.getD, List.getElem?_eq_getElem this]
      exact hl _ (List.getElem_mem this)
    unfold cntK
    generalize cntK so l k = s at *
    generalize hx : l.getD k 0 = n at *
    by_cases hc : n ∈ so ∨ -n ∈ so ∨ n = s.1
    · rw [if_pos hc]
      refine ⟨fun h0 => ⟨(h.f0 h0).1, fun j hj => ?_⟩, fun h1 => ?_, fun h1 j hj => ?_, fun h2 => ?_⟩
      · rcases Nat.lt_succ_iff_lt_or_eq.1 hj with hj | rfl
        · exact (h.f0 h0).2 j hj
        · rw [hx]
          rcases hc with e | e | e
          · exact .inl e
          · exact .inr e
          · rw [(h.f0 h0).1] at e; exact absurd e hn
      · obtain ⟨j, a, b, c⟩ := h.f1 h1; exact ⟨j, by omega, b, c⟩
      · rcases Nat.lt_succ_iff_lt_or_eq.1 hj with hj | rfl
        · exact h.f2 h1 j hj
        · rw [hx]
          rcases hc with e | e | e
          · exact .inr (.inl e)
          · exact .inr (.inr e)
          · exact .inl e
      · obtain ⟨i, j, a, b, c⟩ := h.f3 h2; exact ⟨i, j, by omega, by omega, c⟩
    · rw [if_neg hc]
      have hns : ¬ Settled so n := fun e => hc (e.elim .inl fun e => .inr (.inl e))
      refine ⟨fun h0 => by simp at h0, fun _ => ⟨k, by omega, hx, hns⟩, fun h1 j hj => ?_, fun h2 => ?_⟩
      · rcases Nat.lt_succ_iff_lt_or_eq.1 hj with hj | rfl
        · exact .inr ((h.f0 (by simp only at h1; omega)).2 j hj)
        · exact .inl hx
      · obtain ⟨j, a, b, c⟩ := h.f1 (by simp only at h2; omega)
        exact ⟨j, k, by omega, by omega, by rw [b, hx]; exact fun e => hc (.inr (.inr e.symm)), by rw [b]; exact c, by rw [hx]; exact hns⟩
/-- What is so while the plain text goes round. -/
structure SoF (V : Int) (L : List (List Int)) (A : Int → Prop) (c : List Int) (so : List Int) : Prop where
  up : ∀ n ∈ so, UP L A n
  ain : ∀ n, A n → n ∈ so
  cons : ∀ n ∈ so, -n ∉ so
  num : ∀ n ∈ so, Num V n
  form : ∃ t, so = c ++ t ∧ t.Nodup
theorem mem_getD {l : List Int} {x : Int} (h : x ∈ l) : ∃ j, j < l.length ∧ l.getD j 0 = x := by
  obtain ⟨j, hj, e⟩ := List.getElem_of_mem h
  exact ⟨j, hj, by rw [List.getD, List.getElem?_eq_getElem hj, e]; rfl⟩
theorem getD_mem {l : List Int} {j : Nat} (h : j < l.length) : l.getD j 0 ∈ l := by
  rw [List.getD, List.getElem?_eq_getElem h]; exact List.getElem_mem h
def SatC (so : List Int) (c : List Int) : Prop := (∃ m ∈ c, m ∈ so) ∨ ∃ m ∈ c, ∃ n ∈ c, m ≠ n ∧ -m ∉ so ∧ -n ∉ so
theorem SoF.fail {V : Int} {L : List (List Int)} {A : Int → Prop} {c so : List Int} (h : SoF V L A c so) {d : List Int} (hd : d ∈ L) (hx : ∀ x ∈ d, x ≠ 0) (hf : ∀ x ∈ d, x ∉ so) (h0 : (cntK so d d.length).2 = 0) : Confl L A := by
  refine .inr ⟨d, hd, fun m hm => ?_⟩
  obtain ⟨j, hj, e⟩ := mem_getD hm
  rcases ((cnt_ok hx d.length (Nat.le_refl _)).f0 h0).2 j hj with e1 | e1
  · rw [e] at e1; exact absurd e1 (hf m hm)
  · rw [e] at e1; exact h.up _ e1
theorem SoF.more {V : Int} {L : List (List Int)} {A : Int → Prop} {c so : List Int} (h : SoF V L A c so) {d : List Int} (hd : d ∈ L) (hx : ∀ x ∈ d, Num V x) (hf : ∀ x ∈ d, x ∉ so) (h1 : (cntK so d d.length).2 = 1) : SoF V L A c (so ++ [(cntK so d d.length).1]) := by
  have hk := cnt_ok (so := so) (fun x hx' => (hx x hx').1) d.length (Nat.le_refl _)
  obtain ⟨j, hj, e, hns⟩ := hk.f1 (by omega)
  have hm : (cntK so d d.length).1 ∈ d := e ▸ getD_mem hj
  have hall := hk.f2 h1
  generalize (cntK so d d.length).1 = x at *
  have n1 : x ∉ so := fun e => hns (.inl e)
  have n2 : -x ∉ so := fun e => hns (.inr e)
  have hnum := hx x hm
  refine ⟨fun n hn => ?_, fun n hn => by simp [h.ain n hn], fun n hn => ?_, fun n hn => ?_, ?_⟩
  · rcases List.mem_append.1 hn with hn | hn
    · exact h.up n hn
    · obtain rfl : n = x := by simpa using hn
      refine .unit d hd hm fun m hmd hne => ?_
      obtain ⟨i, hi, e2⟩ := mem_getD hmd
      rcases hall i hi with e3 | e3 | e3
      · rw [e2] at e3; exact absurd e3 hne
      · rw [e2] at e3; exact absurd e3 (hf m hmd)
      · rw [e2] at e3; exact h.up _ e3
  · intro h3
    rcases List.mem_append.1 hn with hn | hn
    · rcases List.mem_append.1 h3 with h3 | h3
      · exact h.cons n hn h3
      · have : -n = x := by simpa using h3
        exact n2 (by rw [← this, Int.neg_neg]; exact hn)
    · obtain rfl : n = x := by simpa using hn
      rcases List.mem_append.1 h3 with h3 | h3
      · exact n2 h3
      · have : -n = n := by simpa using h3
        have := hnum.1
        omega
  · rcases List.mem_append.1 hn with hn | hn
    · exact h.num n hn
    · obtain rfl : n = x := by simpa using hn
      exact hnum
  · obtain ⟨t, e1, e2⟩ := h.form
    refine ⟨t ++ [x], by rw [e1, List.append_assoc], ?_⟩
    rw [List.nodup_append]
    refine ⟨e2, by simp, fun a ha b hb e => ?_⟩
    have : b = x := by simpa using hb
    exact n1 (by rw [e1]; exact List.mem_append.2 (.inr (this ▸ e ▸ ha)))
theorem SoF.sat {V : Int} {L : List (List Int)} {A : Int → Prop} {c so : List Int} (_h : SoF V L A c so) {d : List Int} (hx : ∀ x ∈ d, x ≠ 0) (h2 : 2 ≤ (cntK so d d.length).2) : SatC so d := by
  obtain ⟨i, j, hi, hj, a, b, e⟩ := (cnt_ok (so := so) hx d.length (Nat.le_refl _)).f3 h2
  exact .inr ⟨_, getD_mem hi, _, getD_mem hj, a, fun e' => b (.inr e'), fun e' => e (.inr e')⟩
theorem SoF.done {V : Int} {L : List (List Int)} {A : Int → Prop} {c so : List Int} (h : SoF V L A c so) (hs : ∀ d ∈ L, SatC so d) : ¬ Confl L A := no_confl (S := (· ∈ so)) h.ain h.cons hs
/-- No more numbers than there are. -/
theorem nodup_len {V : Int} {l : List Int} (hn : l.Nodup) (hx : ∀ x ∈ l, Num V x) : l.length ≤ (2 * V + 1).toNat := by
  have hsub : (l.map fun x => (x + V).toNat).Nodup := by
    rw [List.nodup_iff_pairwise_ne, List.pairwise_map]
    rw [List.nodup_iff_pairwise_ne] at hn
    refine hn.imp_of_mem ?_
    intro a b ha hb hab e
    have h1 := hx a ha
    have h2 := hx b hb
    exact hab (by have := h1.2.1; have := h2.2.1; omega)
  have hin : ∀ y ∈ l.map (fun x => (x + V).toNat), y ∈ List.range (2 * V + 1).toNat := fun y hy => by
    obtain ⟨x, hxl, rfl⟩ := List.mem_map.1 hy
    have h1 := hx x hxl
    rw [List.mem_range]
    have := h1.2.1; have := h1.2.2
    omega
  have := hsub.length_le_of_subset hin
  simpa using this
end Go.Proofs.Ytdlfjijfdibocaa.Pf
