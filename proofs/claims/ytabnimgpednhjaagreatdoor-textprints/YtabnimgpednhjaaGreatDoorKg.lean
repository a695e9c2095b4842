/- What a model is that passes Check: its numbers are small, and those that a node does not take are 0. -/
import Derived.Test.YtabnimgpednhjaaGreatDoorJgM
namespace Go.Proofs.YtabnimgpednhjaaGreatDoor
open Go.RowKit
set_option maxRecDepth 100000

structure NdOk (i : Nat) (x : Ev.Nd) : Prop where
  kind : 1 ≤ x.kind ∧ x.kind ≤ 23
  width : 1 ≤ x.width ∧ x.width ≤ 8
  a : if 0 < Ev.takes x.kind then 0 ≤ x.a ∧ x.a < i else x.a = 0
  b : if 1 < Ev.takes x.kind then 0 ≤ x.b ∧ x.b < i else x.b = 0
  c : if 2 < Ev.takes x.kind then 0 ≤ x.c ∧ x.c < i else x.c = 0
  n : if hasN x.kind = true then 0 ≤ x.n ∧ x.n < 256 else x.n = 0
theorem badOn_no {t i num x : Int} (h : Ev.badOn t i num x = false) : if i < t then 0 ≤ x ∧ x < num else x = 0 := by
  unfold Ev.badOn at h
  split at h
  · rename_i h1
    rw [if_pos h1]
    simp at h
    omega
  · rename_i h1
    rw [if_neg h1]
    simpa using h
theorem two_le {v : Int} (h : 1 ≤ v ∧ v ≤ 8) : Ev.two v ≤ 256 := by
  rcases Ev.nine (w := v) (by omega) with rfl | rfl | rfl | rfl | rfl | rfl | rfl | rfl | rfl <;> decide
theorem fit_n {k own n a b c : Int} (h : Ev.fitE k own n a b c = 0) (h4 : 4 ≤ k) : if hasN k = true then 0 ≤ n ∧ n < 256 else n = 0 := by
  unfold Ev.fitE at h
  split at h
  · omega
  split at h
  · omega
  rename_i ho
  simp only [Bool.not_eq_false, Ev.btw_true] at ho
  split at h
  · omega
  rename_i hr
  split at h
  · omega
  rename_i hn
  split at h
  · rename_i hm
    by_cases hk : k = 21
    · subst hk
      rw [if_pos (by decide)]
      have hs : Ev.shape 21 = 6 := by decide
      rw [hs] at hm
      simp [Ev.metS, Ev.metOk, Ev.askOk] at hm
      simp [Ev.rngOk, Ev.takes, Ev.btw] at hr
      omega
    · rw [if_neg (by unfold hasN; simp; omega)]
      omega
  · omega
theorem node_facts {ns : List Ev.Nd} {i : Nat} {x : Ev.Nd} (h : Ev.nodeE ns i x = 0) : NdOk i x := by
  unfold Ev.nodeE at h
  split at h
  · omega
  rename_i h1
  split at h
  · omega
  rename_i h2
  simp only [Bool.not_eq_false, Ev.btw_true] at h1 h2
  split at h
  · rename_i h4
    unfold Ev.opE at h
    split at h
    · omega
    rename_i hb
    simp only [Bool.or_eq_true, not_or, Bool.not_eq_true] at hb
    exact ⟨h1, h2, badOn_no hb.1.1, badOn_no hb.1.2, badOn_no hb.2, fit_n h h4⟩
  · rename_i h4
    have ht : Ev.takes x.kind = 0 := by unfold Ev.takes; (repeat' split) <;> omega
    unfold Ev.leafE at h
    split at h
    · omega
    rename_i hc
    split at h
    · omega
    rename_i hn
    split at h
    · omega
    rename_i ha
    have hw := two_le h2
    refine ⟨h1, h2, by rw [ht]; simp; omega, by rw [ht]; simp; omega, by rw [ht]; simp; omega, ?_⟩
    by_cases h1k : x.kind = 1
    · rw [if_pos (by rw [h1k]; decide)]
      have : Ev.isW x.n x.width = true := by
        cases e : Ev.isW x.n x.width
        · exact absurd ⟨h1k, e⟩ hc
        · rfl
      rw [Ev.isW_iff] at this
      omega
    · rw [if_neg (by unfold hasN; simp; omega)]
      omega
theorem NdOk.ok {i : Nat} {x : Ev.Nd} (h : NdOk i x) (hi : i ≤ 80) : (toD x).ok := by
  obtain ⟨h1, h2, h3, h4, h5, h6⟩ := h
  intro j
  unfold Nd6.at' toD
  split
  · show _ ≤ ((x.kind.toNat : Nat) : Int) ∧ ((x.kind.toNat : Nat) : Int) ≤ _; omega
  · show _ ≤ x.width ∧ x.width ≤ _; omega
  · show _ ≤ x.a ∧ x.a ≤ _; split at h3 <;> omega
  · show _ ≤ x.b ∧ x.b ≤ _; split at h4 <;> omega
  · show _ ≤ x.c ∧ x.c ≤ _; split at h5 <;> omega
  · show _ ≤ x.n ∧ x.n ≤ _; split at h6 <;> omega
structure MdOk (ns : List Ev.Nd) (is xs : List (Int × Int)) (bs hs : List Int) : Prop where
  len : ns.length ≤ 80 ∧ is.length ≤ 80 ∧ xs.length ≤ 80 ∧ bs.length ≤ 8 ∧ hs.length ≤ 8
  ns : ∀ (i : Nat) (h : i < ns.length), NdOk i ns[i]
  is : ∀ p ∈ is, (0 ≤ p.1 ∧ p.1 < 80) ∧ 0 ≤ p.2 ∧ p.2 < 80
  xs : ∀ p ∈ xs, (0 ≤ p.1 ∧ p.1 < 80) ∧ 0 ≤ p.2 ∧ p.2 < 80
  bs : ∀ n ∈ bs, 0 ≤ n ∧ n < 80
  hs : ∀ n ∈ hs, 0 ≤ n ∧ n < 80
theorem model_facts {ns : List Ev.Nd} {is xs : List (Int × Int)} {bs hs : List Int} (h : Ev.checkE ns is xs bs hs = 0) : MdOk ns is xs bs hs := by
  obtain ⟨m1, m2, m3, m4, m5, m6, m7, m8⟩ := model_ok h
  obtain ⟨_, h4, h5, h6⟩ := Ev.check_zero h
  have hmk : (∀ n ∈ bs, 0 ≤ n ∧ n < 80) ∧ ∀ n ∈ hs, 0 ≤ n ∧ n < 80 := by
    unfold Ev.marksE at h6
    split at h6
    · omega
    split at h6
    · omega
    rename_i hb
    simp only [Bool.or_eq_true, not_or, List.any_eq_true, not_exists, not_and, Bool.not_eq_true, Bool.not_eq_false'] at hb
    refine ⟨fun n hn => ?_, fun n hn => ?_⟩
    · have := Ev.isN_true.1 (by simpa using hb.1 n hn); omega
    · have := Ev.isN_true.1 (by simpa using hb.2 n hn); omega
  refine ⟨⟨m1, m2, m3, m4, m5⟩, fun i hi => ?_, m7, m8, hmk.1, hmk.2⟩
  have hz := Ev.firstN_zero.1 h4 i hi
  rw [Ev.nodeAtE_at hi] at hz
  exact node_facts hz
theorem MdOk.ok {ns : List Ev.Nd} {is xs : List (Int × Int)} {bs hs : List Int} (h : MdOk ns is xs bs hs) : ∀ x ∈ ns, (toD x).ok := fun x hx => by
  obtain ⟨i, hi, rfl⟩ := List.getElem_of_mem hx
  exact (h.ns i hi).ok (by have := h.len.1; omega)
end Go.Proofs.YtabnimgpednhjaaGreatDoor
