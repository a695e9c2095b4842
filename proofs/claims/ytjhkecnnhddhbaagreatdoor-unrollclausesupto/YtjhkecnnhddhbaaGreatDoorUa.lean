/- Putting in what must be: lists alone. -/
import Derived.Test.YtjhkecnnhddhbaaGreatDoorCa
namespace Go.Proofs.YtjhkecnnhddhbaaGreatDoor.Pf
set_option autoImplicit false

/-- What must be, by clauses and by what is laid down. -/
inductive UP (L : List (List Int)) (A : Int → Prop) : Int → Prop
  | base {n : Int} : A n → UP L A n
  | unit {n : Int} (c : List Int) : c ∈ L → n ∈ c → (∀ m ∈ c, m ≠ n → UP L A (-m)) → UP L A n

/-- It comes to a clause of which all are not so, or to one that is laid down with its opposite. -/
def Confl (L : List (List Int)) (A : Int → Prop) : Prop := (∃ n, A n ∧ A (-n)) ∨ ∃ c ∈ L, ∀ m ∈ c, UP L A (-m)

theorem UP.mono {L : List (List Int)} {A B : Int → Prop} (h : ∀ n, A n → UP L B n) {n : Int} (hn : UP L A n) : UP L B n := by
  induction hn with
  | base ha => exact h _ ha
  | unit c hc hm _ ih => exact .unit c hc hm ih
theorem UP.more {L M : List (List Int)} {A : Int → Prop} (h : ∀ c ∈ L, ∃ d ∈ M, ∀ x, x ∈ d ↔ x ∈ c) {n : Int} (hn : UP L A n) : UP M A n := by
  induction hn with
  | base ha => exact .base ha
  | unit c hc hm _ ih =>
    obtain ⟨d, hd, hx⟩ := h c hc
    exact .unit d hd ((hx _).2 hm) fun m hm' hne => ih m ((hx _).1 hm') hne
theorem Confl.mono {L : List (List Int)} {A B : Int → Prop} (h : ∀ n, A n → B n) (hc : Confl L A) : Confl L B := by
  rcases hc with ⟨n, h1, h2⟩ | ⟨c, hc, hm⟩
  · exact .inl ⟨n, h _ h1, h _ h2⟩
  · exact .inr ⟨c, hc, fun m hmm => (hm m hmm).mono fun n hn => .base (h n hn)⟩
/-- Two that must be, and are opposites, make it fail. -/
theorem confl_of_both {L : List (List Int)} {A : Int → Prop} {n : Int} (h1 : UP L A n) (h2 : UP L A (-n)) : Confl L A := by
  cases h1 with
  | base ha =>
    cases h2 with
    | base hb => exact .inl ⟨n, ha, hb⟩
    | unit c hc hm hr =>
      refine .inr ⟨c, hc, fun m hmm => ?_⟩
      by_cases h : m = -n
      · subst h; rw [Int.neg_neg]; exact .base ha
      · exact hr m hmm h
  | unit c hc hm hr =>
    refine .inr ⟨c, hc, fun m hmm => ?_⟩
    by_cases h : m = n
    · subst h; exact h2
    · exact hr m hmm h
/-- What is so is closed: a clause of which all but one are not so has that one so. -/
def Closed (L : List (List Int)) (S : Int → Prop) : Prop := ∀ c ∈ L, ∀ n ∈ c, (∀ m ∈ c, m ≠ n → S (-m)) → S n
/-- No clause is lost, and none of what is so has its opposite. -/
def Fine (L : List (List Int)) (S : Int → Prop) : Prop := (∀ n, S n → ¬ S (-n)) ∧ ∀ c ∈ L, ∃ m ∈ c, ¬ S (-m)
/-- Of each clause one is so, or two are neither. -/
def Sat (L : List (List Int)) (S : Int → Prop) : Prop := ∀ c ∈ L, (∃ m ∈ c, S m) ∨ ∃ m ∈ c, ∃ n ∈ c, m ≠ n ∧ ¬ S (-m) ∧ ¬ S (-n)
theorem up_in {L : List (List Int)} {A S : Int → Prop} (hA : ∀ n, A n → S n) (hc : ∀ n, S n → ¬ S (-n)) (hs : Sat L S) {n : Int} (h : UP L A n) : S n := by
  induction h with
  | base ha => exact hA _ ha
  | @unit n c hcl hm _ ih =>
    rcases hs c hcl with ⟨m, hmc, hS⟩ | ⟨m, hmc, k, hkc, hne, h1, h2⟩
    · by_cases h : m = n
      · subst h; exact hS
      · exact absurd (ih m hmc h) (hc m hS)
    · by_cases h : m = n
      · subst h
        exact absurd (ih k hkc (Ne.symm hne)) h2
      · exact absurd (ih m hmc h) h1
/-- Where nothing more comes, nothing fails. -/
theorem no_confl {L : List (List Int)} {A S : Int → Prop} (hA : ∀ n, A n → S n) (hc : ∀ n, S n → ¬ S (-n)) (hs : Sat L S) : ¬ Confl L A := by
  intro h
  rcases h with ⟨n, h1, h2⟩ | ⟨c, hcl, hm⟩
  · exact hc n (hA n h1) (hA _ h2)
  · have hall : ∀ m ∈ c, S (-m) := fun m hmc => up_in hA hc hs (hm m hmc)
    rcases hs c hcl with ⟨m, hmc, hS⟩ | ⟨m, hmc, k, hkc, hne, h1, h2⟩
    · exact hc m hS (hall m hmc)
    · exact h1 (hall m hmc)
end Go.Proofs.YtjhkecnnhddhbaaGreatDoor.Pf
