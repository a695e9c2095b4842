/- Gates: And. -/
import Derived.Test.YtjhkecnnhddhbaaGreatDoorGi
namespace Go.Proofs.YtjhkecnnhddhbaaGreatDoor
open Go.RowKit Go.Maps Go.WideMaps
set_option maxRecDepth 100000
set_option maxRecDepth 100000

/-- The And of two literals, the lesser one first: its literal, whether it could be made, and the graph's Ands then. -/
def makLit (ins : Int) (ps : List (Int × Int)) (a b : Int) : Int := if a = 0 ∨ a = turn b then 0 else if a = 1 ∨ a = b then b else addLit ins ps (a, b)
def makOk (ps : List (Int × Int)) (a b : Int) : Bool := if a = 0 ∨ a = turn b then true else if a = 1 ∨ a = b then true else addOk ps (a, b)
def makPs (ps : List (Int × Int)) (a b : Int) : List (Int × Int) := if a = 0 ∨ a = turn b then ps else if a = 1 ∨ a = b then ps else addPs ps (a, b)

theorem mak_no {ins : Int} {ps : List (Int × Int)} {a b : Int} (h : a = 0 ∨ a = turn b) : makLit ins ps a b = 0 ∧ makOk ps a b = true ∧ makPs ps a b = ps := by
  unfold makLit makOk makPs; rw [if_pos h, if_pos h, if_pos h]; exact ⟨rfl, rfl, rfl⟩
theorem mak_one {ins : Int} {ps : List (Int × Int)} {a b : Int} (h : ¬ (a = 0 ∨ a = turn b)) (h2 : a = 1 ∨ a = b) : makLit ins ps a b = b ∧ makOk ps a b = true ∧ makPs ps a b = ps := by
  unfold makLit makOk makPs; rw [if_neg h, if_neg h, if_neg h, if_pos h2, if_pos h2, if_pos h2]; exact ⟨rfl, rfl, rfl⟩
theorem mak_add {ins : Int} {ps : List (Int × Int)} {a b : Int} (h : ¬ (a = 0 ∨ a = turn b)) (h2 : ¬ (a = 1 ∨ a = b)) : makLit ins ps a b = addLit ins ps (a, b) ∧ makOk ps a b = addOk ps (a, b) ∧ makPs ps a b = addPs ps (a, b) := by
  unfold makLit makOk makPs; rw [if_neg h, if_neg h, if_neg h, if_neg h2, if_neg h2, if_neg h2]; exact ⟨rfl, rfl, rfl⟩

theorem turn_ne (x : Int) : x ≠ turn x := by unfold turn; split <;> omega

set_option maxRecDepth 100000 in
set_option maxHeartbeats 4000000 in
theorem makerAnd_lt (ins : Int) (ps : List (Int × Int)) (hl : ps.length ≤ 1000000) (h0 : 0 ≤ ins) (h1 : ins ≤ 1000) (x y a b : Int) (hxy : x < y) (hx : 0 ≤ x) (hy : y ≤ 10000000) (hab : (a = x ∧ b = y) ∨ (a = y ∧ b = x)) (hd : dupN ps ps.length = false)
    (w : World) (base M B : Nat) (v : Value) (D : DataW Unit) (hbs : base ≤ w.heap.size) (hmk : Mk w base M B v ins ps) (hown : w.ownsMap Tryz.prog 75 (plainElem Tryz.prog 3) B ps.length D) (hmap : MapIs ins ps ps.length D) :
    Calls Tryz.prog 167 #[.pointer (some ⟨M, 0, none⟩), .int .i64 a, .int .i64 b] w fun e w' => ∃ v', e = .returned (.tuple #[.int .i64 (makLit ins ps x y), .bool (makOk ps x y)]) ∧
      Mk w' base M B v' ins (makPs ps x y) ∧ Below base w w' := by
  have HCL := hide (add_any ins ps hl h0 h1 x y ⟨by omega, by omega⟩ ⟨by omega, by omega⟩ hd w base M B v D hbs hmk hown hmap)
  have HMK := hide hmk
  have HT := hide (fun w => turn_any y (by omega) hy w)
  clear hmk hown hmap hd
  by_cases hz : x = 0
  · have HE := hide (mak_no (ins := ins) (ps := ps) (Or.inl hz : x = 0 ∨ x = turn y))
    have hz' : (x == 0) = true := by simpa using hz
    clear HCL hz
    rcases hab with ⟨rfl, rfl⟩ | ⟨rfl, rfl⟩
    all_goals
      go_enter Tryz.func167, Tryz.ntmps167
      go_wp2
      go_ret2
      exact ⟨v, by rw [HE.out.1, HE.out.2.1]; rfl, by rw [HE.out.2.2]; exact HMK.out, Below.refl _ _⟩
  have hz' : (x == 0) = false := by simpa using hz
  by_cases ht : x = turn y
  · have HE := hide (mak_no (ins := ins) (ps := ps) (Or.inr ht : x = 0 ∨ x = turn y))
    have ht' : (x == turn y) = true := by simpa using ht
    clear HCL hz ht
    generalize turn y = ty at *
    rcases hab with ⟨rfl, rfl⟩ | ⟨rfl, rfl⟩
    all_goals
      go_enter Tryz.func167, Tryz.ntmps167
      go_wp2_with (go_at_call 68; refine (HT.out _).mono ?_; rintro e w' ⟨rfl, rfl⟩)
      go_ret2
      exact ⟨v, by rw [HE.out.1, HE.out.2.1]; rfl, by rw [HE.out.2.2]; exact HMK.out, Below.refl _ _⟩
  have ht' : (x == turn y) = false := by simpa using ht
  have hno : ¬ (x = 0 ∨ x = turn y) := fun h => h.elim hz ht
  have hne : (x == y) = false := by simp; omega
  by_cases ho : x = 1
  · have HE := hide (mak_one (ins := ins) (ps := ps) hno (Or.inl ho : x = 1 ∨ x = y))
    have ho' : (x == 1) = true := by simpa using ho
    clear HCL hz ht ho hno
    generalize turn y = ty at *
    rcases hab with ⟨rfl, rfl⟩ | ⟨rfl, rfl⟩
    all_goals
      go_enter Tryz.func167, Tryz.ntmps167
      go_wp2_with (go_at_call 68; refine (HT.out _).mono ?_; rintro e w' ⟨rfl, rfl⟩)
      go_ret2
      exact ⟨v, by rw [HE.out.1, HE.out.2.1]; rfl, by rw [HE.out.2.2]; exact HMK.out, Below.refl _ _⟩
  · have HE := hide (mak_add (ins := ins) (ps := ps) hno (by omega : ¬ (x = 1 ∨ x = y)))
    have ho' : (x == 1) = false := by simpa using ho
    clear hz ht ho hno
    generalize turn y = ty at *
    rcases hab with ⟨rfl, rfl⟩ | ⟨rfl, rfl⟩
    all_goals
      go_enter Tryz.func167, Tryz.ntmps167
      go_wp2_with (first | (go_at_call 68; refine (HT.out _).mono ?_; rintro e w' ⟨rfl, rfl⟩) | fail)
      refine HCL.out.mono ?_
      rintro e w1 ⟨v', rfl, hmk1, hb1⟩
      have HR := hide (And.intro hmk1 hb1)
      clear hmk1 hb1
      go_wp2
      go_ret2
      exact ⟨v', by rw [HE.out.1, HE.out.2.1]; rfl, by rw [HE.out.2.2]; exact HR.out.1, HR.out.2⟩

set_option maxRecDepth 100000 in
set_option maxHeartbeats 4000000 in
theorem makerAnd_eq (ins : Int) (ps : List (Int × Int)) (x : Int) (hx : 0 ≤ x) (hy : x ≤ 10000000)
    (w : World) (base M B : Nat) (v : Value) (hmk : Mk w base M B v ins ps) :
    Calls Tryz.prog 167 #[.pointer (some ⟨M, 0, none⟩), .int .i64 x, .int .i64 x] w fun e w' => ∃ v', e = .returned (.tuple #[.int .i64 (makLit ins ps x x), .bool (makOk ps x x)]) ∧
      Mk w' base M B v' ins (makPs ps x x) ∧ Below base w w' := by
  have HMK := hide hmk
  have HT := hide (fun w => turn_any x (by omega) hy w)
  have hne := turn_ne x
  clear hmk
  by_cases hz : x = 0
  · have HE := hide (mak_no (ins := ins) (ps := ps) (Or.inl hz : x = 0 ∨ x = turn x))
    have hz' : (x == 0) = true := by simpa using hz
    clear hz hne
    go_enter Tryz.func167, Tryz.ntmps167
    go_wp2
    go_ret2
    exact ⟨v, by rw [HE.out.1, HE.out.2.1]; rfl, by rw [HE.out.2.2]; exact HMK.out, Below.refl _ _⟩
  have hz' : (x == 0) = false := by simpa using hz
  have ht' : (x == turn x) = false := by simpa using hne
  have hno : ¬ (x = 0 ∨ x = turn x) := fun h => h.elim hz hne
  have HE := hide (mak_one (ins := ins) (ps := ps) hno (Or.inr rfl : x = 1 ∨ x = x))
  clear hne hz hno
  generalize turn x = ty at *
  cases ho' : (x == 1)
  all_goals
    go_enter Tryz.func167, Tryz.ntmps167
    go_wp2_with (go_at_call 68; refine (HT.out _).mono ?_; rintro e w' ⟨rfl, rfl⟩)
    go_ret2
    exact ⟨v, by rw [HE.out.1, HE.out.2.1]; rfl, by rw [HE.out.2.2]; exact HMK.out, Below.refl _ _⟩

def andLit (ins : Int) (ps : List (Int × Int)) (a b : Int) : Int := makLit ins ps (min a b) (max a b)
def andOk (ps : List (Int × Int)) (a b : Int) : Bool := makOk ps (min a b) (max a b)
def andPs (ps : List (Int × Int)) (a b : Int) : List (Int × Int) := makPs ps (min a b) (max a b)

theorem makerAnd_any (ins : Int) (ps : List (Int × Int)) (hl : ps.length ≤ 1000000) (h0 : 0 ≤ ins) (h1 : ins ≤ 1000) (a b : Int) (ha : 0 ≤ a) (ha2 : a ≤ 10000000) (hb : 0 ≤ b) (hb2 : b ≤ 10000000) (hd : dupN ps ps.length = false)
    (w : World) (base M B : Nat) (v : Value) (D : DataW Unit) (hbs : base ≤ w.heap.size) (hmk : Mk w base M B v ins ps) (hown : w.ownsMap Tryz.prog 75 (plainElem Tryz.prog 3) B ps.length D) (hmap : MapIs ins ps ps.length D) :
    Calls Tryz.prog 167 #[.pointer (some ⟨M, 0, none⟩), .int .i64 a, .int .i64 b] w fun e w' => ∃ v', e = .returned (.tuple #[.int .i64 (andLit ins ps a b), .bool (andOk ps a b)]) ∧
      Mk w' base M B v' ins (andPs ps a b) ∧ Below base w w' := by
  unfold andLit andOk andPs
  rcases Int.lt_trichotomy a b with h | h | h
  · rw [Int.min_eq_left (by omega), Int.max_eq_right (by omega)]
    exact makerAnd_lt ins ps hl h0 h1 a b a b h ha hb2 (Or.inl ⟨rfl, rfl⟩) hd w base M B v D hbs hmk hown hmap
  · subst h
    rw [Int.min_eq_left (by omega), Int.max_eq_right (by omega)]
    exact makerAnd_eq ins ps a ha ha2 w base M B v hmk
  · rw [Int.min_eq_right (by omega), Int.max_eq_left (by omega)]
    exact makerAnd_lt ins ps hl h0 h1 b a a b h hb ha2 (Or.inr ⟨rfl, rfl⟩) hd w base M B v D hbs hmk hown hmap

end Go.Proofs.YtjhkecnnhddhbaaGreatDoor
