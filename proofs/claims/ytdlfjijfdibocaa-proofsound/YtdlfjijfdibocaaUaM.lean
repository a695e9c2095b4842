/- Clauses that come in. -/
import Derived.Test.YtdlfjijfdibocaaGp
import Derived.Test.YtdlfjijfdibocaaCd
import Derived.Test.YtdlfjijfdibocaaCa
namespace Go.Proofs.Ytdlfjijfdibocaa.Pf
open Go.ChangeShapes Go.WideShapes Go.ChangeAt Go.RowKit Go.Deep
set_option maxRecDepth 100000

theorem cellsC : Try.prog.cellsOf 24 = 2 := by kernel_rfl
theorem cellsL : Try.prog.cellsOf 22 = 1 := by kernel_rfl
theorem cellsI : Try.prog.cellsOf 32 = 1 := by kernel_rfl
theorem bytesI : Try.prog.bytesOf 32 = 24 := by kernel_rfl

section
variable {H : Type} {enc : TypeId × Value → H} {W : World} {base : Nat} {sp : Nat → Bool} {held : Bool} {fuel : Nat} {v : Value} {x : DataW H × List MemPlace}

theorem in_row (h : DataW.trod enc Try.prog W base sp held fuel 32 [v] = some x) : ∃ r : Row, v = r.v ∧ IntsAt W r.at' r.ns ∧ r.ns.length ≤ maxLen := by
  obtain ⟨p, c, l, h1, h2, _⟩ := in_ints h
  refine ⟨⟨p, l, c⟩, h1, h2, ?_⟩
  rcases open_ints Try.underlying32 Try.underlying3 cells3 h with ⟨hcs, hx⟩ | ⟨a, len, cap, zs, hcs, _, hl, hm, hz, hx, hcell, _⟩
  · simp at hcs
    rw [hcs] at h1
    injection h1 with _ e2 _
    show l.length ≤ maxLen
    unfold maxLen; omega
  · simp at hcs
    rw [hcs] at h1
    injection h1 with _ e2 e3
    show l.length ≤ maxLen
    omega

theorem in_rows (h : DataW.trod enc Try.prog W base sp held fuel 22 [v] = some x) :
    ∃ p c rs, v = .slice p (List.length rs) c ∧ (p = none → c = 0) ∧ ClAt W p rs ∧ (∀ r ∈ rs, r.ns.length ≤ maxLen) ∧ ((x.1.weights Try.prog 22).all (· ≤ reachBytes) = true → rs.length ≤ 5864062014634) := by
  rcases open_slice1 Try.underlying22 cellsI h with ⟨hcs, hx⟩ | ⟨a, len, cap, m, n, V, D, Pl, hcs, _, hl, hm, hmm, hx, hcell⟩
  · simp at hcs
    exact ⟨none, 0, [], hcs, fun _ => rfl, clAt_nil _, fun r hr => by simp at hr, fun _ => by simp⟩
  · simp at hcs
    have hlm : len ≤ m := by rw [hmm]; split <;> omega
    have hinh : Inhabited Row := ⟨⟨none, [], 0⟩⟩
    obtain ⟨F, hF⟩ := choose_lt (α := Row) (n := len) (p := fun i r => V i = r.v ∧ IntsAt W r.at' r.ns ∧ r.ns.length ≤ maxLen) (fun i hi => in_row (hcell i (by omega)).2)
    have hlen : ((List.range len).map F).length = len := by simp
    refine ⟨some a, cap, (List.range len).map F, by rw [hcs, hlen], (fun h => by cases h), ⟨?_, ?_⟩, ?_, ?_⟩
    · intro h0
      rw [hlen] at h0
      obtain ⟨b, off, spot⟩ := a
      have hspot : spot = none := by simpa [Addr.add] using World.cell?_spot (hcell 0 (by omega)).1
      subst hspot
      refine ⟨b, off, rfl, fun i hi => ?_⟩
      have hi' : i < len := by rw [hlen] at hi; exact hi
      have := (hcell i (by omega)).1
      rw [Addr.add_lit, (hF i hi').1] at this
      rw [this, List.getElem_map, List.getElem_range]
    · intro r hr
      obtain ⟨i, hi, rfl⟩ := List.mem_map.1 hr
      exact (hF i (List.mem_range.1 hi)).2.1
    · intro r hr
      obtain ⟨i, hi, rfl⟩ := List.mem_map.1 hr
      exact (hF i (List.mem_range.1 hi)).2.2
    · intro hw
      subst hx
      have := weigh Try.underlying22 hw
      rw [bytesI] at this
      simp only [List.length_map, List.length_range, reachBytes] at this
      rw [hlen]
      omega
end

theorem in_clauses {H : Type} {enc : TypeId × Value → H} {W : World} {r : Reach} {b0 base : Nat} {sp : Nat → Bool} {held : Bool} {v : Value} {d : DataW H} {p : List MemPlace}
    (hv : Value.okWide Try.prog W r b0 24 v) (h : DataW.Trod enc Try.prog W base sp held 24 v d p) :
    ∃ vars q c rs, v = cval vars q (List.length rs) c ∧ (q = none → c = 0) ∧ ClAt W q rs ∧ (∀ r ∈ rs, r.ns.length ≤ maxLen) ∧ ((d.weights Try.prog 24).all (· ≤ reachBytes) = true → rs.length ≤ 5864062014634) := by
  obtain ⟨cs, rfl, hsz⟩ := okWide_struct Try.underlying24 hv
  obtain ⟨v0, v1, rfl⟩ := two_cells (hsz.trans cellsC)
  obtain ⟨fuel, hf⟩ := h
  simp only [Value.cells] at hf
  obtain ⟨y, m, _, hxy, _, hl, hx⟩ := DataW.trod_struct Try.underlying24 hf
  have hl2 : y.length = 2 := hl
  match y, hl2 with
  | [y0, y1], _ =>
    have e0 := hx 0 _ rfl
    have e1 := hx 1 _ rfl
    simp [cells3] at e0
    simp [cellsL] at e1
    obtain ⟨n0, g0, _⟩ := DataW.trod_int Try.underlying3 e0
    simp at g0
    subst g0
    obtain ⟨a1, c1, rs, rfl, N1, H1, F1, L1⟩ := in_rows e1
    have hd : d = .agg [y0.1, y1.1] := by simpa using congrArg Prod.fst hxy
    refine ⟨n0, a1, c1, rs, rfl, N1, H1, F1, fun hs => L1 ?_⟩
    rw [hd] at hs
    simp only [DataW.weights, Try.underlying24, List.map_cons, List.map_nil, DataW.weightsEach, List.all_append, Bool.and_eq_true] at hs
    exact hs.2.1

end Go.Proofs.Ytdlfjijfdibocaa.Pf

namespace Go.Proofs.Ytdlfjijfdibocaa.Pf

/-- What must be, by clauses and by what is laid down. -/
def UP (L : List (List Int)) (A : Int → Prop) (n : Int) : Prop := ∀ P : Int → Prop, (∀ n, A n → P n) → (∀ (n : Int) (c : List Int), c ∈ L → n ∈ c → (∀ m ∈ c, m ≠ n → P (-m)) → P n) → P n
theorem UP.base {L : List (List Int)} {A : Int → Prop} {n : Int} (h : A n) : UP L A n := fun _ h1 _ => h1 n h
theorem UP.unit {L : List (List Int)} {A : Int → Prop} {n : Int} (c : List Int) (hc : c ∈ L) (hn : n ∈ c) (h : ∀ m ∈ c, m ≠ n → UP L A (-m)) : UP L A n := fun P h1 h2 => h2 n c hc hn fun m hm hne => h m hm hne P h1 h2
theorem UP.ind {L : List (List Int)} {A P : Int → Prop} (hb : ∀ n, A n → P n) (hu : ∀ (n : Int) (c : List Int), c ∈ L → n ∈ c → (∀ m ∈ c, m ≠ n → UP L A (-m)) → (∀ m ∈ c, m ≠ n → P (-m)) → P n) {n : Int} (h : UP L A n) : P n :=
 (h (fun n => UP L A n ∧ P n) (fun n h => ⟨UP.base h, hb n h⟩) fun n c hc hn ih => ⟨UP.unit c hc hn fun m hm hne => (ih m hm hne).1, hu n c hc hn (fun m hm hne => (ih m hm hne).1) fun m hm hne => (ih m hm hne).2⟩).2
theorem UP.out {L : List (List Int)} {A : Int → Prop} {n : Int} (h : UP L A n) : A n ∨ ∃ c, c ∈ L ∧ n ∈ c ∧ ∀ m ∈ c, m ≠ n → UP L A (-m) := UP.ind (P := fun n => A n ∨ ∃ c, c ∈ L ∧ n ∈ c ∧ ∀ m ∈ c, m ≠ n → UP L A (-m)) (fun _ h => .inl h) (fun _ c hc hn h _ => .inr ⟨c, hc, hn, h⟩) h
/-- It comes to a clause of which all are not so, or to one that is laid down with its opposite. -/
def Confl (L : List (List Int)) (A : Int → Prop) : Prop := (∃ n, A n ∧ A (-n)) ∨ ∃ c ∈ L, ∀ m ∈ c, UP L A (-m)

theorem UP.mono {L : List (List Int)} {A B : Int → Prop} (h : ∀ n, A n → UP L B n) {n : Int} (hn : UP L A n) : UP L B n := UP.ind (P := UP L B) h (fun _ c hc hm _ ih => UP.unit c hc hm ih) hn
theorem UP.more {L M : List (List Int)} {A : Int → Prop} (h : ∀ c ∈ L, ∃ d ∈ M, ∀ x, x ∈ d ↔ x ∈ c) {n : Int} (hn : UP L A n) : UP M A n := UP.ind (P := UP M A) (fun _ ha => UP.base ha) (fun _ c hc hm _ ih => by
 obtain ⟨d, hd, hx⟩ := h c hc
 exact UP.unit d hd ((hx _).2 hm) fun m hm' hne => ih m ((hx _).1 hm') hne) hn
theorem Confl.mono {L : List (List Int)} {A B : Int → Prop} (h : ∀ n, A n → B n) (hc : Confl L A) : Confl L B := by
  rcases hc with ⟨n, h1, h2⟩ | ⟨c, hc, hm⟩
  · exact .inl ⟨n, h _ h1, h _ h2⟩
  · exact .inr ⟨c, hc, fun m hmm => (hm m hmm).mono fun n hn => .base (h n hn)⟩
/-- Two that must be, and are opposites, make it fail. -/
theorem confl_of_both {L : List (List Int)} {A : Int → Prop} {n : Int} (h1 : UP L A n) (h2 : UP L A (-n)) : Confl L A := by
 rcases UP.out h1 with ha | ⟨c, hc, hm, hr⟩
 · rcases UP.out h2 with hb | ⟨c, hc, hm, hr⟩
   · exact .inl ⟨n, ha, hb⟩
   · refine .inr ⟨c, hc, fun m hmm => ?_⟩
     by_cases h : m = -n
     · subst h; rw [Int.neg_neg]; exact UP.base ha
     · exact hr m hmm h
 · refine .inr ⟨c, hc, fun m hmm => ?_⟩
   by_cases h : m = n
   · subst h; exact h2
   · exact hr m hmm h
/-- What is so is closed: a clause of which all but one are not so has that one so. -/
def Closed (L : List (List Int)) (S : Int → Prop) : Prop := ∀ c ∈ L, ∀ n ∈ c, (∀ m ∈ c, m ≠ n → S (-m)) → S n
/-- No clause is lost, and none of what is so has its opposite. -/
def Fine (L : List (List Int)) (S : Int → Prop) : Prop := (∀ n, S n → ¬ S (-n)) ∧ ∀ c ∈ L, ∃ m ∈ c, ¬ S (-m)
/-- Of each clause one is so, or two are neither. -/
def Sat (L : List (List Int)) (S : Int → Prop) : Prop := ∀ c ∈ L, (∃ m ∈ c, S m) ∨ ∃ m ∈ c, ∃ n ∈ c, m ≠ n ∧ ¬ S (-m) ∧ ¬ S (-n)
theorem up_in {L : List (List Int)} {A S : Int → Prop} (hA : ∀ n, A n → S n) (hc : ∀ n, S n → ¬ S (-n)) (hs : Sat L S) {n : Int} (h : UP L A n) : S n := by
 refine UP.ind (P := S) hA (fun n c hcl hm _ ih => ?_) h
 rcases hs c hcl with ⟨m, hmc, hS⟩ | ⟨m, hmc, k, hkc, hne, h1, h2⟩
 · by_cases h : m = n
   · subst h; exact hS
   · exact absurd (ih m hmc h) (hc m hS)
 · by_cases h : m = n
   · subst h
     exact absurd (ih k hkc (Ne.symm hne)) h2
   · exact absurd (ih m hmc h) h1
/-- Where nothing more comes, nothing fails. -/
theorem no_confl {L : List (List Int)} {A S : Int → Prop} (hA : ∀ n, A n → S n) (hc : ∀ n, S n → ¬ S (-n)) (hs : Sat L S) : ¬ Confl L A := by
  intro h
  rcases h with ⟨n, h1, h2⟩ | ⟨c, hcl, hm⟩
  · exact hc n (hA n h1) (hA _ h2)
  · have hall : ∀ m ∈ c, S (-m) := fun m hmc => up_in hA hc hs (hm m hmc)
    rcases hs c hcl with ⟨m, hmc, hS⟩ | ⟨m, hmc, k, hkc, hne, h1, h2⟩
    · exact hc m hS (hall m hmc)
    · exact h1 (hall m hmc)
end Go.Proofs.Ytdlfjijfdibocaa.Pf
