/- Clauses of gates: those of an And, of a root; do they fit. -/
import Derived.Test.YtdlfjijfdibocaaCb
namespace Go.Proofs.Ytdlfjijfdibocaa
open Go.RowKit Go.Maps Go.WideMaps
set_option maxRecDepth 100000

theorem numL_bd {x : Int} (h : 0 ≤ x) (h2 : x ≤ 10000000) : -10000000 ≤ numL x ∧ numL x ≤ 10000000 := by
  unfold numL
  split <;> omega

/-- What some lists of numbers are. -/
def numsOf (rs : List Row) : List (List Int) := rs.map Row.ns
theorem numsOf_len (rs : List Row) : (numsOf rs).length = rs.length := by simp [numsOf]
theorem numsOf_app (rs : List Row) (r : Row) : numsOf (rs ++ [r]) = numsOf rs ++ [r.ns] := by simp [numsOf]

theorem ints_two {w : World} (x y : Int) : IntsAt (w.alloc (.cells #[.int .i64 x, .int .i64 y] 3)) (some ⟨w.heap.size, 0, none⟩) [x, y] := fun _ => ⟨w.heap.size, 0, rfl, fun i hi => by
  match i, hi with
  | 0, _ => simp [go_sem]
  | 1, _ => simp [go_sem]⟩
theorem ints_three {w : World} (x y z : Int) : IntsAt (w.alloc (.cells #[.int .i64 x, .int .i64 y, .int .i64 z] 3)) (some ⟨w.heap.size, 0, none⟩) [x, y, z] := fun _ => ⟨w.heap.size, 0, rfl, fun i hi => by
  match i, hi with
  | 0, _ => simp [go_sem]
  | 1, _ => simp [go_sem]
  | 2, _ => simp [go_sem]⟩

theorem past_bal {base : Nat} {w w1 : World} (h : Below base w w1) (hb : base ≤ w1.heap.size) (o : Obj) : Below base w (w1.alloc o) := h.alloc hb o

set_option maxRecDepth 100000 in
set_option maxHeartbeats 4000000 in
theorem andM_any (base M : Nat) (v : Value) (vars : Int) (rs : List Row) (hrs : rs.length ≤ 3500000) (n a b : Int) (hn : 0 ≤ n) (hn2 : n ≤ 10000000) (ha : 0 ≤ a) (ha2 : a ≤ 10000000) (hb : 0 ≤ b) (hb2 : b ≤ 10000000) (w : World) (hbs : base ≤ w.heap.size) (hmk : Cm w base M v vars rs) :
    Calls Try.prog 25 #[.pointer (some ⟨M, 0, none⟩), .int .i64 n, arr2 a b] w fun e w' => e = .returned (.tuple #[]) ∧ ∃ v' rs', numsOf rs' = numsOf rs ++ andC n a b ∧ Cm w' base M v' vars rs' ∧ Below base w w' := by
  have hna := numL_bd ha ha2
  have hnb := numL_bd hb hb2
  have HC : Hid (andC n a b = [[-n, numL a], [-n, numL b], [n, -numL a, -numL b]]) := rfl
  have HMK := hide hmk
  have hal : Below w.heap.size w (w.alloc (.cells #[.int .i64 a, .int .i64 b] 36)).drew := (bal (Below.refl _ _) _).drew
  clear hmk
  generalize andC n a b = C at *
  go_enter Try.func25, Try.ntmps25
  go_wp2
  go_region_held3 (fun w' => w'.cell? ⟨w.heap.size, 0, none⟩ = some (.int .i64 a) ∧ w'.cell? ⟨w.heap.size, 1, none⟩ = some (.int .i64 b))
    (first | exact ⟨by simp [go_sem], by simp [go_sem]⟩ | go_keep)
    ((go_at_call 47; refine (number_any _ (by assumption) (by assumption) _).mono ?_; rintro e w' ⟨rfl, rfl⟩))
  all_goals
    generalize numL a = x at *
    generalize numL b = y at *
    have HMK1 := hide (HMK.out.below hal)
    have HB1 := hide (hal.mono hbs)
    have hs1 : base ≤ (w.alloc (.cells #[.int .i64 a, .int .i64 b] 36)).drew.heap.size := by simp; omega
    rename_i hHeld
    clear hHeld hal HMK
    generalize (w.alloc (.cells #[.int .i64 a, .int .i64 b] 36)).drew = w1 at *
    go_wp2_with fail
    refine (addC_any base M v vars rs (by omega) [-n, x] (by simp) (some ⟨w1.heap.size, 0, none⟩) 2 _ (by simp; omega) (HMK1.out.below (bal (Below.refl _ _) _)) (ints_two (-n) x)).mono ?_
    rintro e w2 ⟨rfl, v2, r2, hr2, hmk2, hb2⟩
    have HMK2 := hide hmk2
    have hs2 : base ≤ w2.heap.size := by have := hb2.size; simp at this; omega
    have HB2 := hide ((HB1.out.alloc hs1 _).trans hb2)
    have HR2 := hide hr2
    clear hmk2 hb2 HMK1 HB1 hr2
    go_wp2_with fail
    refine (addC_any base M v2 vars (rs ++ [r2]) (by simp; omega) [-n, y] (by simp) (some ⟨w2.heap.size, 0, none⟩) 2 _ (by simp; omega) (HMK2.out.below (bal (Below.refl _ _) _)) (ints_two (-n) y)).mono ?_
    rintro e w3 ⟨rfl, v3, r3, hr3, hmk3, hb3⟩
    have HMK3 := hide hmk3
    have hs3 : base ≤ w3.heap.size := by have := hb3.size; simp at this; omega
    have HB3 := hide ((HB2.out.alloc hs2 _).trans hb3)
    have HR3 := hide hr3
    clear hmk3 hb3 HMK2 HB2 hr3
    go_wp2_with fail
    refine (addC_any base M v3 vars (rs ++ [r2] ++ [r3]) (by simp; omega) [n, -x, -y] (by simp) (some ⟨w3.heap.size, 0, none⟩) 3 _ (by simp; omega) (HMK3.out.below (bal (Below.refl _ _) _)) (ints_three n (-x) (-y))).mono ?_
    rintro e w4 ⟨rfl, v4, r4, hr4, hmk4, hb4⟩
    have HMK4 := hide hmk4
    have HB4 := hide ((HB3.out.alloc hs3 _).trans hb4)
    have HR4 := hide hr4
    clear hmk4 hb4 HMK3 HB3 hr4
    go_wp2
    go_end0
    exact ⟨rfl, v4, _, by rw [numsOf_app, numsOf_app, numsOf_app, HR2.out, HR3.out, HR4.out, HC.out]; simp, HMK4.out, HB4.out⟩

set_option maxRecDepth 100000 in
set_option maxHeartbeats 4000000 in
theorem rootM_any (base M : Nat) (v : Value) (vars : Int) (rs : List Row) (hrs : rs.length ≤ 3900000) (x : Int) (hx : 0 ≤ x) (hx2 : x ≤ 10000000) (w : World) (hbs : base ≤ w.heap.size) (hmk : Cm w base M v vars rs) :
    Calls Try.prog 26 #[.pointer (some ⟨M, 0, none⟩), .int .i64 x] w fun e w' => e = .returned (.tuple #[]) ∧ ∃ v' rs', numsOf rs' = numsOf rs ++ rootC x ∧ Cm w' base M v' vars rs' ∧ Below base w w' := by
  have HMK := hide hmk
  clear hmk
  by_cases h1 : x = 1
  · subst h1
    have HC : Hid (rootC 1 = []) := rfl
    go_enter Try.func26, Try.ntmps26
    go_wp2
    go_end0
    exact ⟨rfl, v, rs, by rw [HC.out]; simp, HMK.out, Below.refl _ _⟩
  · by_cases h0 : x = 0
    · subst h0
      have HC : Hid (rootC 0 = [[]]) := rfl
      go_enter Try.func26, Try.ntmps26
      go_wp2_with fail
      refine (addC_any base M v vars rs (by omega) [] (by simp) none 0 _ hbs HMK.out (fun h => by simp at h)).mono ?_
      rintro e w2 ⟨rfl, v2, r2, hr2, hmk2, hb2⟩
      have HMK2 := hide hmk2
      have HR2 := hide hr2
      clear hmk2 hr2
      go_wp2
      go_end0
      exact ⟨rfl, v2, _, by rw [numsOf_app, HR2.out, HC.out], HMK2.out, hb2⟩
    · have HC : Hid (rootC x = [[numL x]]) := by unfold rootC; rw [if_neg h1, if_neg h0]; rfl
      have hna := numL_bd hx hx2
      have HN := hide (fun w => number_any x hx hx2 w)
      have h1' : (x == 1) = false := by simpa using h1
      have h0' : (x == 0) = false := by simpa using h0
      generalize rootC x = C at *
      generalize numL x = y at *
      go_enter Try.func26, Try.ntmps26
      go_wp2_with (first | (go_at_call 47; refine (HN.out _).mono ?_; rintro e w' ⟨rfl, rfl⟩) | fail)
      refine (addC_any base M v vars rs (by omega) [y] (by simp) (some ⟨w'.heap.size, 0, none⟩) 1 _ (by simp; omega) (HMK.out.below (bal (Below.refl _ _) _)) (ints_one y)).mono ?_
      rintro e w2 ⟨rfl, v2, r2, hr2, hmk2, hb2⟩
      have HMK2 := hide hmk2
      have HR2 := hide hr2
      have HB2 := hide (((Below.refl _ _).alloc hbs _).trans hb2)
      clear hmk2 hr2 hb2
      go_wp2
      go_end0
      exact ⟨rfl, v2, _, by rw [numsOf_app, HR2.out, HC.out], HMK2.out, HB2.out⟩

theorem variables_any (ins : Int) (p : Option Addr) (len cap : Nat) (h0 : 0 ≤ ins) (h1 : ins ≤ 1000) (h2 : len ≤ 1000001) (w : World) :
    Calls Try.prog 24 #[gval ins p len cap] w fun e w' => e = .returned (.int .i64 (ins + len)) ∧ Below w.heap.size w w' := by
  have hB0 : Below w.heap.size w (w.alloc (.cells #[.int .i64 ins, .slice p len cap] 39)) := bal (Below.refl _ _) _
  go_enter Try.func24, Try.ntmps24
  go_wp2_with fail
  refine (nodes_any ins p len cap h0 h1 h2 _).mono ?_
  rintro e w1 ⟨rfl, hb1⟩
  have HB1 := hide (bthen hB0 hb1)
  clear hb1 hB0
  go_wp2
  go_ret
  exact ⟨ret_int (by omega), HB1.out⟩

/-- How many clauses the first roots take. -/
def cntR (rs : List Int) : Nat → Nat
  | 0 => 0
  | k + 1 => cntR rs k + (if rs.getD k 1 = 1 then 0 else 1)
theorem cntR_le (rs : List Int) (k : Nat) : cntR rs k ≤ k := by
  induction k with
  | zero => exact Nat.le_refl _
  | succ k ih => unfold cntR; split <;> omega
/-- Are the clauses within the limits? -/
def fitE (ins : Int) (n : Nat) (rs : List Int) : Int := if 800000 < 3 * n + cntR rs rs.length then 2 else if 200000 < ins + n then 3 else 0

set_option maxRecDepth 100000 in
set_option maxHeartbeats 4000000 in
theorem besides_any (rs : List Int) (q : Option Addr) (qc : Nat) (hl : rs.length ≤ 17592186044416) (w : World) (hI : IntsAt w q rs) :
    Calls Try.prog 46 #[.slice q rs.length qc, .int .i64 1] w fun e w' => e = .returned (.int .i64 (cntR rs rs.length : Nat)) ∧ w' = w := by
  have HI := hide hI
  clear hI
  go_enter Try.func46, Try.ntmps46
  go_wp2
  go_loopw [5, 10] (fun c i wr => ∃ k : Nat, k ≤ rs.length ∧ i = .int .i64 k ∧ c = .int .i64 (cntR rs k : Nat) ∧ wr = w) (fun _ i _ => rs.length - (intOf i).toNat)
  case atStart => exact ⟨0, Nat.zero_le _, rfl, by simp [cntR], rfl⟩
  case round =>
    obtain ⟨k, hk, rfl, rfl, hwr⟩ := hrel
    obtain rfl : w = wr := hwr.symm
    have hc := cntR_le rs k
    by_cases hlt : k < rs.length
    · obtain ⟨b, off, rfl, hcs⟩ := HI.out (by omega)
      have c0 := hcs k hlt
      have HS : Hid (cntR rs (k + 1) = cntR rs k + (if rs.getD k 1 = 1 then 0 else 1)) := rfl
      have hg : rs.getD k 1 = rs[k] := by simp [List.getD, List.getElem?_eq_getElem hlt]
      rw [hg] at HS
      clear hg hcs
      generalize rs[k] = x at *
      have hki : (k : Int) < (rs.length : Int) := by omega
      generalize cntR rs k = cn at *
      by_cases hx : x = 1
      · subst hx
        have HS2 : Hid (cntR rs (k + 1) = cn) := by rw [HS.out]; simp [Hid]
        go_wp2
        go_roundw
        case rel => exact ⟨k + 1, by omega, by go_num, by rw [HS2.out], trivial⟩
        case measure => simp [intOf]; omega
      · have HS2 : Hid (cntR rs (k + 1) = cn + 1) := by rw [HS.out, if_neg hx]; rfl
        have hx' : (x != 1) = true := by simpa using hx
        go_wp2
        go_roundw
        case rel => exact ⟨k + 1, by omega, by go_num, by rw [HS2.out]; go_num, trivial⟩
        case measure => simp [intOf]; omega
    · obtain rfl : k = rs.length := by omega
      go_wp2
      go_ret
      exact ⟨rfl, rfl⟩

set_option maxRecDepth 100000 in
set_option maxHeartbeats 4000000 in
theorem fitC_any (ins : Int) (p : Option Addr) (len cap : Nat) (h0 : 0 ≤ ins) (h1 : ins ≤ 1000) (h2 : len ≤ 1000001) (rs : List Int) (q : Option Addr) (qc : Nat) (hl : rs.length ≤ 17592186044416) (w : World) (hI : IntsAt w q rs) :
    Calls Try.prog 23 #[gval ins p len cap, .slice q rs.length qc] w fun e w' => e = .returned (.int .i64 (fitE ins len rs)) ∧ Below w.heap.size w w' := by
  have hB0 : Below w.heap.size w (w.alloc (.cells #[.int .i64 ins, .slice p len cap] 39)) := bal (Below.refl _ _) _
  have HE : Hid (fitE ins len rs = if 800000 < 3 * len + cntR rs rs.length then 2 else if 200000 < ins + len then 3 else 0) := rfl
  have HBS := hide (fun (w1 : World) (hb : Below w.heap.size w w1) => besides_any rs q qc hl w1 (hI.later hb))
  have hc := cntR_le rs rs.length
  have q0 : (w.alloc (.cells #[.int .i64 ins, .slice p len cap] 39)).cell? ⟨w.heap.size, 0, none⟩ = some (.int .i64 ins) := by simp [go_sem]
  have q1 : (w.alloc (.cells #[.int .i64 ins, .slice p len cap] 39)).cell? ⟨w.heap.size, 1, none⟩ = some (.slice p len cap) := by simp [go_sem]
  generalize fitE ins len rs = R at *
  generalize cntR rs rs.length = cn at *
  clear hI
  have hw := wrap_id (x := 3 * (len : Int) + cn) (by omega) (by omega)
  go_enter Try.func23, Try.ntmps23
  go_wp2_with fail
  go_quiet ((go_at_call 46; refine Calls.quiet_of_same (HBS.out _ (by first | exact hB0 | exact hB0.drew | exact bdn hB0 _))))
  by_cases hm : 800000 < 3 * len + cn
  · have HX : Hid (R = 2) := by rw [HE.out, if_pos hm]; rfl
    have hm' : (800000 : Int) < 3 * (len : Int) + cn := by omega
    go_wp2
    go_ret
    exact ⟨ret_int HX.out.symm, bdn hB0 _⟩
  · have hm' : ¬ (800000 : Int) < 3 * (len : Int) + cn := by omega
    rw [if_neg hm] at HE
    go_wp2_with fail
    refine (variables_any ins p len cap h0 h1 h2 _).mono ?_
    rintro e w1 ⟨rfl, hb1⟩
    have HB1 := hide (bthen (bdn hB0 _) hb1)
    clear hb1 hB0
    by_cases hv : 200000 < ins + len
    · have HX : Hid (R = 3) := by rw [HE.out, if_pos hv]; rfl
      go_wp2
      go_ret
      exact ⟨ret_int HX.out.symm, HB1.out⟩
    · have HX : Hid (R = 0) := by rw [HE.out, if_neg hv]; rfl
      go_wp2
      go_ret
      exact ⟨ret_int HX.out.symm, HB1.out⟩

end Go.Proofs.Ytdlfjijfdibocaa
