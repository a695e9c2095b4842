/- Gates: And. -/
import Derived.Test.YtabnimgpednhjabGi
namespace Go.Proofs.Ytabnimgpednhjab
open Go.RowKit Go.Maps Go.WideMaps
set_option maxRecDepth 100000

/-- The And of two literals, the lesser one first: its literal, whether it could be made, and the graph's Ands then. -/
def makLit (ins : Int) (ps : List (Int × Int)) (a b : Int) : Int := if a = 0 ∨ a = turn b then 0 else if a = 1 ∨ a = b then b else addLit ins ps (a, b)
def makOk (ps : List (Int × Int)) (a b : Int) : Bool := if a = 0 ∨ a = turn b then true else if a = 1 ∨ a = b then true else addOk ps (a, b)
def makPs (ps : List (Int × Int)) (a b : Int) : List (Int × Int) := if a = 0 ∨ a = turn b then ps else if a = 1 ∨ a = b then ps else addPs ps (a, b)

theorem mak_no {ins : Int} {ps : List (Int × Int)} {a b : Int} (h : a = 0 ∨ a = turn b) : makLit ins ps a b = 0 ∧ makOk ps a b = true ∧ makPs ps a b = ps := by
  unfold makLit makOk makPs; rw [if_pos h, if_pos h, if_pos h]; exact ⟨rfl, rfl, rfl⟩
theorem mak_one {ins : Int} {ps : List (Int × Int)} {a b : Int} (h : ¬ (a = 0 ∨ a = turn b)) (h2 : a = 1 ∨ a = b) : makLit ins ps a b = b ∧ makOk ps a b = true ∧ makPs ps a b = ps := by
  unfold makLit makOk makPs; rw [if_neg h, if_neg h, if_neg h, if_pos h2, if_pos h2, if_pos h2]; exact ⟨rfl, rfl, rfl⟩
theorem mak_add {ins : Int} {ps : List (Int × Int)} {a b : Int} (h : ¬ (a = 0 ∨ a = turn b)) (h2 : ¬ (a = 1 ∨ a = b)) : makLit ins ps a b = addLit ins ps (a, b) ∧ makOk ps a b = addOk ps (a, b) ∧ makPs ps a b = addPs ps (a, b) := by
  unfold makLit makOk makPs; rw [if_neg h, if_neg h, if_neg h, if_neg h2, if_neg h2, if_neg h2]; exact ⟨rfl, rfl, rfl⟩

theorem turn_ne (x : Int) : x ≠ turn x := by unfold turn; split <;> omega

set_option maxRecDepth 100000 in
set_option maxHeartbeats 4000000 in
theorem makerAnd_lt (ins : Int) (ps : List (Int × Int)) (hl : ps.length ≤ 1000000) (h0 : 0 ≤ ins) (h1 : ins ≤ 1000) (x y a b : Int) (hxy : x < y) (hx : 0 ≤ x) (hy : y ≤ 10000000) (hab : (a = x ∧ b = y) ∨ (a = y ∧ b = x)) (hd : dupN ps ps.length = false)
    (w : World) (base M B : Nat) (v : Value) (D : DataW Unit) (hbs : base ≤ w.heap.size) (hmk : Mk w base M B v ins ps) (hown : w.ownsMap Try.prog 69 (plainElem Try.prog 3) B ps.length D) (hmap : MapIs ins ps ps.length D) :
    Calls Try.prog 33 #[.pointer (some ⟨M, 0, none⟩), .int .i64 a, .int .i64 b] w fun e w' => ∃ v', e = .returned (.tuple #[.int .i64 (makLit ins ps x y), .bool (makOk ps x y)]) ∧
      Mk w' base M B v' ins (makPs ps x y) ∧ Below base w w' := by
  have HCL := hide (add_any ins ps hl h0 h1 x y ⟨by omega, by omega⟩ ⟨by omega, by omega⟩ hd w base M B v D hbs hmk hown hmap)
  have HMK := hide hmk
  have HT := hide (fun w => turn_any y (by omega) hy w)
  clear hmk hown hmap hd
  by_cases hz : x = 0
  · have HE := hide (mak_no (ins := ins) (ps := ps) (Or.inl hz : x = 0 ∨ x = turn y))
    have hz' : (x == 0) = true := by simpa using hz
    clear HCL hz
    rcases hab with ⟨rfl, rfl⟩ | ⟨rfl, rfl⟩
    all_goals
      go_enter Try.func33, Try.ntmps33
      go_wp2
      go_ret2
      exact ⟨v, by rw [HE.out.1, HE.out.2.1]; rfl, by rw [HE.out.2.2]; exact HMK.out, Below.refl _ _⟩
  have hz' : (x == 0) = false := by simpa using hz
  by_cases ht : x = turn y
  · have HE := hide (mak_no (ins := ins) (ps := ps) (Or.inr ht : x = 0 ∨ x = turn y))
    have ht' : (x == turn y) = true := by simpa using ht
    clear HCL hz ht
    generalize turn y = ty at *
    rcases hab with ⟨rfl, rfl⟩ | ⟨rfl, rfl⟩
    all_goals
      go_enter Try.func33, Try.ntmps33
      go_wp2_with (go_at_call 60; refine (HT.out _).mono ?_; rintro e w' ⟨rfl, rfl⟩)
      go_ret2
      exact ⟨v, by rw [HE.out.1, HE.out.2.1]; rfl, by rw [HE.out.2.2]; exact HMK.out, Below.refl _ _⟩
  have ht' : (x == turn y) = false := by simpa using ht
  have hno : ¬ (x = 0 ∨ x = turn y) := fun h => h.elim hz ht
  have hne : (x == y) = false := by simp; omega
  by_cases ho : x = 1
  · have HE := hide (mak_one (ins := ins) (ps := ps) hno (Or.inl ho : x = 1 ∨ x = y))
    have ho' : (x == 1) = true := by simpa using ho
    clear HCL hz ht ho hno
    generalize turn y = ty at *
    rcases hab with ⟨rfl, rfl⟩ | ⟨rfl, rfl⟩
    all_goals
      go_enter Try.func33, Try.ntmps33
      go_wp2_with (go_at_call 60; refine (HT.out _).mono ?_; rintro e w' ⟨rfl, rfl⟩)
      go_ret2
      exact ⟨v, by rw [HE.out.1, HE.out.2.1]; rfl, by rw [HE.out.2.2]; exact HMK.out, Below.refl _ _⟩
  · have HE := hide (mak_add (ins := ins) (ps := ps) hno (by omega : ¬ (x = 1 ∨ x = y)))
    have ho' : (x == 1) = false := by simpa using ho
    clear hz ht ho hno
    generalize turn y = ty at *
    rcases hab with ⟨rfl, rfl⟩ | ⟨rfl, rfl⟩
    all_goals
      go_enter Try.func33, Try.ntmps33
      go_wp2_with (first | (go_at_call 60; refine (HT.out _).mono ?_; rintro e w' ⟨rfl, rfl⟩) | fail)
      refine HCL.out.mono ?_
      rintro e w1 ⟨v', rfl, hmk1, hb1⟩
      have HR := hide (And.intro hmk1 hb1)
      clear hmk1 hb1
      go_wp2
      go_ret2
      exact ⟨v', by rw [HE.out.1, HE.out.2.1]; rfl, by rw [HE.out.2.2]; exact HR.out.1, HR.out.2⟩

set_option maxRecDepth 100000 in
set_option maxHeartbeats 4000000 in
theorem makerAnd_eq (ins : Int) (ps : List (Int × Int)) (x : Int) (hx : 0 ≤ x) (hy : x ≤ 10000000)
    (w : World) (base M B : Nat) (v : Value) (hmk : Mk w base M B v ins ps) :
    Calls Try.prog 33 #[.pointer (some ⟨M, 0, none⟩), .int .i64 x, .int .i64 x] w fun e w' => ∃ v', e = .returned (.tuple #[.int .i64 (makLit ins ps x x), .bool (makOk ps x x)]) ∧
      Mk w' base M B v' ins (makPs ps x x) ∧ Below base w w' := by
  have HMK := hide hmk
  have HT := hide (fun w => turn_any x (by omega) hy w)
  have hne := turn_ne x
  clear hmk
  by_cases hz : x = 0
  · have HE := hide (mak_no (ins := ins) (ps := ps) (Or.inl hz : x = 0 ∨ x = turn x))
    have hz' : (x == 0) = true := by simpa using hz
    clear hz hne
    go_enter Try.func33, Try.ntmps33
    go_wp2
    go_ret2
    exact ⟨v, by rw [HE.out.1, HE.out.2.1]; rfl, by rw [HE.out.2.2]; exact HMK.out, Below.refl _ _⟩
  have hz' : (x == 0) = false := by simpa using hz
  have ht' : (x == turn x) = false := by simpa using hne
  have hno : ¬ (x = 0 ∨ x = turn x) := fun h => h.elim hz hne
  have HE := hide (mak_one (ins := ins) (ps := ps) hno (Or.inr rfl : x = 1 ∨ x = x))
  clear hne hz hno
  generalize turn x = ty at *
  cases ho' : (x == 1)
  all_goals
    go_enter Try.func33, Try.ntmps33
    go_wp2_with (go_at_call 60; refine (HT.out _).mono ?_; rintro e w' ⟨rfl, rfl⟩)
    go_ret2
    exact ⟨v, by rw [HE.out.1, HE.out.2.1]; rfl, by rw [HE.out.2.2]; exact HMK.out, Below.refl _ _⟩

def andLit (ins : Int) (ps : List (Int × Int)) (a b : Int) : Int := makLit ins ps (min a b) (max a b)
def andOk (ps : List (Int × Int)) (a b : Int) : Bool := makOk ps (min a b) (max a b)
def andPs (ps : List (Int × Int)) (a b : Int) : List (Int × Int) := makPs ps (min a b) (max a b)

theorem makerAnd_any (ins : Int) (ps : List (Int × Int)) (hl : ps.length ≤ 1000000) (h0 : 0 ≤ ins) (h1 : ins ≤ 1000) (a b : Int) (ha : 0 ≤ a) (ha2 : a ≤ 10000000) (hb : 0 ≤ b) (hb2 : b ≤ 10000000) (hd : dupN ps ps.length = false)
    (w : World) (base M B : Nat) (v : Value) (D : DataW Unit) (hbs : base ≤ w.heap.size) (hmk : Mk w base M B v ins ps) (hown : w.ownsMap Try.prog 69 (plainElem Try.prog 3) B ps.length D) (hmap : MapIs ins ps ps.length D) :
    Calls Try.prog 33 #[.pointer (some ⟨M, 0, none⟩), .int .i64 a, .int .i64 b] w fun e w' => ∃ v', e = .returned (.tuple #[.int .i64 (andLit ins ps a b), .bool (andOk ps a b)]) ∧
      Mk w' base M B v' ins (andPs ps a b) ∧ Below base w w' := by
  unfold andLit andOk andPs
  rcases Int.lt_trichotomy a b with h | h | h
  · rw [Int.min_eq_left (by omega), Int.max_eq_right (by omega)]
    exact makerAnd_lt ins ps hl h0 h1 a b a b h ha hb2 (Or.inl ⟨rfl, rfl⟩) hd w base M B v D hbs hmk hown hmap
  · subst h
    rw [Int.min_eq_left (by omega), Int.max_eq_right (by omega)]
    exact makerAnd_eq ins ps a ha ha2 w base M B v hmk
  · rw [Int.min_eq_right (by omega), Int.max_eq_left (by omega)]
    exact makerAnd_lt ins ps hl h0 h1 b a a b h hb ha2 (Or.inr ⟨rfl, rfl⟩) hd w base M B v D hbs hmk hown hmap

end Go.Proofs.Ytabnimgpednhjab

namespace Go.Proofs.Ytabnimgpednhjab
open Go.RowKit Go.Maps Go.WideMaps
set_option maxRecDepth 100000

/-- What And says. -/
def andE (ins : Int) (ps : List (Int × Int)) (a b : Int) : Int :=
  if chkE ins ps ≠ 0 then chkE ins ps else if [a, b].any (noLit (2 * (1 + ins + ps.length))) = true then 5 else if andOk ps a b = false then 2 else 0
def outIns (ins e : Int) : Int := if e = 0 then ins else 0
def outLit (ins : Int) (ps : List (Int × Int)) (a b e : Int) : Int := if e = 0 then andLit ins ps a b else 0
def outPs (ps : List (Int × Int)) (a b e : Int) : List (Int × Int) := if e = 0 then andPs ps a b else []

theorem out_no {ins : Int} {ps : List (Int × Int)} {a b e : Int} (h : e ≠ 0) : outIns ins e = 0 ∧ outLit ins ps a b e = 0 ∧ outPs ps a b e = [] := by
  unfold outIns outLit outPs; rw [if_neg h, if_neg h, if_neg h]; exact ⟨rfl, rfl, rfl⟩
theorem out_ok {ins : Int} {ps : List (Int × Int)} {a b : Int} : outIns ins 0 = ins ∧ outLit ins ps a b 0 = andLit ins ps a b ∧ outPs ps a b 0 = andPs ps a b := by
  unfold outIns outLit outPs; rw [if_pos rfl, if_pos rfl, if_pos rfl]; exact ⟨rfl, rfl, rfl⟩

/-- What And leaves. -/
def AndOut (w' : World) (e : Ending) (ins : Int) (ps : List (Int × Int)) (a b : Int) : Prop := ∃ pv cv,
  e = .returned (.tuple #[gval (outIns ins (andE ins ps a b)) pv (outPs ps a b (andE ins ps a b)).length cv, .int .i64 (outLit ins ps a b (andE ins ps a b)), .int .i64 (andE ins ps a b)]) ∧
      PairsAt w' pv (outPs ps a b (andE ins ps a b))
theorem andOut_no {w' : World} {ins : Int} {ps : List (Int × Int)} {a b e : Int} (he : andE ins ps a b = e) (hne : e ≠ 0) : AndOut w' (.returned (.tuple #[gval 0 none 0 0, .int .i64 0, .int .i64 e])) ins ps a b := by
  subst he
  obtain ⟨h1, h2, h3⟩ := out_no (ins := ins) (ps := ps) (a := a) (b := b) hne
  refine ⟨none, 0, ?_, ?_⟩
  · rw [h1, h2, h3]; rfl
  · rw [h3]; exact fun h => by simp at h
theorem andOut_ok {w' : World} {ins : Int} {ps : List (Int × Int)} {a b : Int} {pv : Option Addr} {cv : Nat} (he : andE ins ps a b = 0) (hp : PairsAt w' pv (andPs ps a b)) : AndOut w' (.returned (.tuple #[gval ins pv (andPs ps a b).length cv, .int .i64 (andLit ins ps a b), .int .i64 0])) ins ps a b := by
  obtain ⟨h1, h2, h3⟩ := out_ok (ins := ins) (ps := ps) (a := a) (b := b)
  unfold AndOut
  rw [he, h1, h2, h3]
  exact ⟨pv, cv, rfl, hp⟩

theorem two_any (f : Int → Bool) (a b : Int) : [a, b].any f = (f a || f b) := by simp

theorem pairs_two {w : World} {a b : Int} : IntsAt (w.alloc (.cells #[.int .i64 a, .int .i64 b] 3)) (some ⟨w.heap.size, 0, none⟩) [a, b] := fun _ => ⟨w.heap.size, 0, rfl, fun i hi => by
  match i, hi with
  | 0, _ => simp [go_sem]
  | 1, _ => simp [go_sem]⟩

set_option maxRecDepth 100000 in
set_option maxHeartbeats 4000000 in
theorem and_any (ins : Int) (p : Option Addr) (cap : Nat) (ps : List (Int × Int)) (hwf : WfP ps) (hl : ps.length ≤ 8796093022208) (a b : Int) (w : World) (hP : PairsAt w p ps) :
    Calls Try.prog 9 #[gval ins p ps.length cap, .int .i64 a, .int .i64 b] w fun e w' => AndOut w' e ins ps a b ∧ Below w.heap.size w w' := by
  have hB0 : Below w.heap.size w ((w.alloc (.cells #[.int .i64 ins, .slice p ps.length cap] 24)).alloc (.cells #[.int .i64 0, .slice none 0 0] 24)) := bal (bal (Below.refl _ _) _) _
  have HC := hide (checked_any ins p cap ps hwf hl _ (hP.later hB0))
  clear hP hwf
  by_cases hc : chkE ins ps = 0
  · obtain ⟨h0, h1, hlen, hst, hd⟩ := chk_zero hc
    have HAE : Hid (andE ins ps a b = if [a, b].any (noLit (2 * (1 + ins + ps.length))) = true then 5 else if andOk ps a b = false then 2 else 0) := by unfold andE; rw [if_neg (by simpa using hc)]; rfl
    have HCK : Hid (∀ w1 v, Checked ((w.alloc (.cells #[.int .i64 ins, .slice p ps.length cap] 24)).alloc (.cells #[.int .i64 0, .slice none 0 0] 24)) w1 ins ps v → ∃ M B u D, v = .pointer (some ⟨M, 0, none⟩) ∧ Mk w1 (w.heap.size + 2) M B u ins ps ∧ w1.ownsMap Try.prog 69 (plainElem (H := Unit) Try.prog 3) B ps.length D ∧ MapIs ins ps ps.length D) := fun w1 v h => by
      unfold Checked at h; rw [if_pos hc] at h; simpa using h
    rw [hc] at HC
    have HD := hide hd
    clear hc hst hd
    go_enter Try.func9, Try.ntmps9
    go_wp2_with fail
    refine HC.out.mono ?_
    rintro e w1 ⟨v, rfl, hck, hb1⟩
    obtain ⟨M, B, u, D, rfl, hmk, hown, hmap⟩ := HCK.out _ _ hck
    have HB1 := hide (bthen hB0 hb1)
    have hsz := hb1.size
    simp at hsz
    have q0 := cell_later hb1 (a := ⟨w.heap.size, 0, none⟩) (v := .int .i64 ins) (by simp [go_sem])
    have q1 := cell_later hb1 (a := ⟨w.heap.size, 1, none⟩) (v := .slice p ps.length cap) (by simp [go_sem])
    have z0 := cell_later hb1 (a := ⟨w.heap.size + 1, 0, none⟩) (v := .int .i64 0) (by simp [go_sem])
    have z1 := cell_later hb1 (a := ⟨w.heap.size + 1, 1, none⟩) (v := .slice none 0 0) (by simp [go_sem])
    have zf : ∀ i, w1.frozen? ⟨w.heap.size + 1, i, none⟩ = false := fun i => by rw [hb1.frozen (by simp)]; simp [go_sem]
    have HM := hide hmk
    have HO := hide hown
    have HI := hide hmap
    clear hb1 hck hB0 HC hmk hown hmap HCK
    go_wp2_with fail
    have hb2 : Below w1.heap.size w1 (w1.alloc (.cells #[.int .i64 a, .int .i64 b] 3)) := bal (Below.refl _ _) _
    refine (has_any ins p ps.length cap h0 h1 (by omega) [a, b] _ 2 (by simp [maxLen]) _ pairs_two).mono ?_
    rintro e w2 ⟨rfl, hb3⟩
    have hb4 := bthen hb2 hb3
    have HM2 := hide (HM.out.below hb4)
    have HO2 := hide (map_below HO.out hb4)
    have HB2 := hide (bthen HB1.out hb4)
    have hsz2 := hb4.size
    have z0' := cell_later hb4 z0
    have z1' := cell_later hb4 z1
    have zf' : ∀ i, w2.frozen? ⟨w.heap.size + 1, i, none⟩ = false := fun i => by rw [hb4.frozen (by simp; omega)]; exact zf i
    clear hb2 hb3 hb4 z0 z1 zf HM HO HB1 q0 q1
    cases hn : [a, b].any (noLit (2 * (1 + ins + ps.length)))
    · have HN := hide hn
      rw [two_any, Bool.or_eq_false_iff] at hn
      simp [noLit] at hn
      obtain ⟨⟨ha0, ha1⟩, hb0, hb1⟩ := hn
      have HCA := hide (makerAnd_any ins ps hlen h0 h1 a b ha0 (by omega) hb0 (by omega) HD.out w2 (w.heap.size + 2) M B u D (by omega) HM2.out HO2.out HI.out)
      cases ho : andOk ps a b
      · have HE : Hid (andE ins ps a b = 2) := by rw [HAE.out, HN.out, ho]; rfl
        rw [ho] at HCA
        clear HAE HN ho
        go_wp2_with fail
        refine HCA.out.mono ?_
        rintro e w3 ⟨v', rfl, hmk3, hb3⟩
        have y0 := hb3.cell (p := ⟨w.heap.size + 1, 0, none⟩) (by simp)
        have y1 := hb3.cell (p := ⟨w.heap.size + 1, 1, none⟩) (by simp)
        rw [z0'] at y0
        rw [z1'] at y1
        have yf : ∀ i, w3.frozen? ⟨w.heap.size + 1, i, none⟩ = false := fun i => by rw [hb3.frozen (by simp)]; exact zf' i
        have HB3 := hide (HB2.out.trans (hb3.mono (by omega)))
        clear hmk3 hb3 HCA z0' z1' zf'
        go_wp2
        exact bodyPost_ret (v := .tuple #[gval 0 none 0 0, .int .i64 0, .int .i64 2]) (by simp [results, Try.results9, go_sem, y0, y1]) rfl ⟨andOut_no HE.out (by decide), (HB3.out.setCell (by simp) _).setCell (by simp) _⟩
      · have HE : Hid (andE ins ps a b = 0) := by rw [HAE.out, HN.out, ho]; rfl
        rw [ho] at HCA
        clear HAE HN ho
        go_wp2_with fail
        refine HCA.out.mono ?_
        rintro e w3 ⟨v', rfl, hmk3, hb3⟩
        obtain ⟨pv, cv, rfl, hpv⟩ := owns_pairs hmk3.row
        have y0 := hb3.cell (p := ⟨w.heap.size + 1, 0, none⟩) (by simp)
        have y1 := hb3.cell (p := ⟨w.heap.size + 1, 1, none⟩) (by simp)
        rw [z0'] at y0
        rw [z1'] at y1
        have yf : ∀ i, w3.frozen? ⟨w.heap.size + 1, i, none⟩ = false := fun i => by rw [hb3.frozen (by simp)]; exact zf' i
        have HB3 := hide (HB2.out.trans (hb3.mono (by omega)))
        have m0 := hmk3.c0
        have m1 := hmk3.c1
        have HPV : Hid (PairsAt ((w3.setCell ⟨w.heap.size + 1, 0, none⟩ (.int .i64 ins)).setCell ⟨w.heap.size + 1, 1, none⟩ (.slice pv (andPs ps a b).length cv)) pv (andPs ps a b)) := by
          intro h
          obtain ⟨bb, oo, hbo, hcc⟩ := hpv h
          have hbb : w.heap.size + 2 ≤ bb := by have := (hmk3.row.lt bb (by rw [hbo]; rfl)).1; omega
          exact ⟨bb, oo, hbo, fun i hi => ⟨cell_set_far (cell_set_far (hcc i hi).1 (by simp; omega)) (by simp; omega), cell_set_far (cell_set_far (hcc i hi).2 (by simp; omega)) (by simp; omega)⟩⟩
        clear hmk3 hb3 HCA z0' z1' zf' hpv
        go_wp2
        exact bodyPost_ret (v := .tuple #[gval ins pv (andPs ps a b).length cv, .int .i64 (andLit ins ps a b), .int .i64 0]) (by simp [results, Try.results9, go_sem, y0, y1]) rfl ⟨andOut_ok HE.out HPV.out, (HB3.out.setCell (by simp) _).setCell (by simp) _⟩
    · have HE : Hid (andE ins ps a b = 5) := by rw [HAE.out, hn]; rfl
      clear HAE hn
      go_wp2
      exact bodyPost_ret (v := .tuple #[gval 0 none 0 0, .int .i64 0, .int .i64 5]) (by simp [results, Try.results9, go_sem, z0', z1']) rfl ⟨andOut_no HE.out (by decide), (HB2.out.setCell (by simp) _).setCell (by simp) _⟩
  · have hne : (chkE ins ps != 0) = true := by simpa using hc
    have HE : Hid (andE ins ps a b = chkE ins ps) := by unfold andE; rw [if_pos hc]; rfl
    have HCK : Hid (∀ w1 v, Checked ((w.alloc (.cells #[.int .i64 ins, .slice p ps.length cap] 24)).alloc (.cells #[.int .i64 0, .slice none 0 0] 24)) w1 ins ps v → v = .pointer none) := fun w1 v h => by unfold Checked at h; rw [if_neg hc] at h; exact h
    have HNZ := hide hc
    clear hc
    generalize chkE ins ps = R at *
    go_enter Try.func9, Try.ntmps9
    go_wp2_with fail
    refine HC.out.mono ?_
    rintro e w1 ⟨v, rfl, hck, hb1⟩
    obtain rfl := HCK.out _ _ hck
    have HB1 := hide (bthen hB0 hb1)
    have z0 := cell_later hb1 (a := ⟨w.heap.size + 1, 0, none⟩) (v := .int .i64 0) (by simp [go_sem])
    have z1 := cell_later hb1 (a := ⟨w.heap.size + 1, 1, none⟩) (v := .slice none 0 0) (by simp [go_sem])
    have zf : ∀ i, w1.frozen? ⟨w.heap.size + 1, i, none⟩ = false := fun i => by rw [hb1.frozen (by simp)]; simp [go_sem]
    clear hb1 hck hB0 HC
    go_wp2
    exact bodyPost_ret (v := .tuple #[gval 0 none 0 0, .int .i64 0, .int .i64 R]) (by simp [results, Try.results9, go_sem, z0, z1]) rfl ⟨andOut_no HE.out HNZ.out, (HB1.out.setCell (by simp) _).setCell (by simp) _⟩

end Go.Proofs.Ytabnimgpednhjab
