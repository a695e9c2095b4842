/- What Fit is held against returns the same. -/
import Derived.Test.YtabnimgpednhjaaDoorWc
import Derived.Deep.Light
import Derived.Test.YtabnimgpednhjaaDoorWbM
import Derived.Deep.RegionWith
namespace Go.Proofs.YtabnimgpednhjaaDoor.Ev
open Go.RowKit
set_option maxRecDepth 100000

/-- Are the widths so? (the plain text's own words) -/
def okOf (k own n a b c : Int) : Bool :=
  if k = 4 ∨ k = 5 then a == own else if 6 ≤ k ∧ k ≤ 15 then a == own && b == own else if 16 ≤ k ∧ k ≤ 18 then a == b && own == 1
  else if k = 19 then a == 1 && b == own && c == own else if k = 20 then a + b == own
  else if k = 21 then decide (0 ≤ n) && decide (n ≤ 8) && decide (n + own ≤ a) else decide (a ≤ own)

def refE (k own n a b c : Int) : Int :=
  if takes k = 0 then 7 else if btw own 1 8 = false then 3 else if rngOk (takes k) a b c = false then 3
  else if okOf k own n a b c = false ∨ (k ≠ 21 ∧ n ≠ 0) then 1 else 0


end Go.Proofs.YtabnimgpednhjaaDoor.Ev

namespace Go.Proofs.YtabnimgpednhjaaDoor.Ev

theorem met1 (own n a b c : Int) : metOk 0 2 0 0 own n a b c = (a == own) := by simp [metOk, askOk]
theorem met2 (own n a b c : Int) : metOk 0 2 2 0 own n a b c = (a == own && b == own) := by simp [metOk, askOk]
theorem met3 (own n a b c : Int) : metOk 1 0 3 0 own n a b c = (own == 1 && b == a) := by simp [metOk, askOk]
theorem met4 (own n a b c : Int) : metOk 0 1 2 2 own n a b c = (a == 1 && b == own && c == own) := by simp [metOk, askOk]
theorem met5 (own n a b c : Int) : metOk 0 0 4 0 own n a b c = (b == own - a) := by simp [metOk, askOk]
theorem met6 (own n a b c : Int) : metOk 0 5 0 0 own n a b c = (decide (0 ≤ n) && decide (n ≤ a - own)) := by simp [metOk, askOk]
theorem met7 (own n a b c : Int) : metOk 0 6 0 0 own n a b c = decide (a ≤ own) := by simp [metOk, askOk]

theorem takes_shape (k : Int) : takes k = 0 ↔ shape k = 0 := by
  unfold takes shape
  (repeat' split) <;> omega

theorem shape_pos {k : Int} (hs : shape k ≠ 0) : 4 ≤ k ∧ k ≤ 23 := by
  apply Classical.byContradiction
  intro hn
  exact hs (by unfold shape; rw [if_pos hn])

theorem met_ok (k own n a b c : Int) (hs : shape k ≠ 0) (h : 1 ≤ own ∧ own ≤ 8) (ha : 0 ≤ a ∧ a ≤ 8) : metS (shape k) own n a b c = okOf k own n a b c := by
  have hk := shape_pos hs
  clear hs
  unfold metS okOf
  rw [met1, met2, met3, met4, met5, met6, met7]
  rw [Bool.eq_iff_iff]
  by_cases h5 : k ≤ 5
  · have e : shape k = 1 := by unfold shape; (repeat' split) <;> omega
    rw [e]
    simp [show k = 4 ∨ k = 5 from by omega]
  by_cases h15 : k ≤ 15
  · have e : shape k = 2 := by unfold shape; (repeat' split) <;> omega
    rw [e]
    simp [show ¬ (k = 4 ∨ k = 5) from by omega, show 6 ≤ k ∧ k ≤ 15 from by omega]
  by_cases h18 : k ≤ 18
  · have e : shape k = 3 := by unfold shape; (repeat' split) <;> omega
    rw [e]
    simp [show ¬ (k = 4 ∨ k = 5) from by omega, show ¬ (6 ≤ k ∧ k ≤ 15) from by omega, show 16 ≤ k ∧ k ≤ 18 from by omega]; omega
  by_cases h19 : k = 19
  · have e : shape k = 4 := by unfold shape; (repeat' split) <;> omega
    rw [e]
    simp [h19]
  by_cases h20 : k = 20
  · have e : shape k = 5 := by unfold shape; (repeat' split) <;> omega
    rw [e]
    simp [h20]; omega
  by_cases h21 : k = 21
  · have e : shape k = 6 := by unfold shape; (repeat' split) <;> omega
    rw [e]
    simp [h21]; omega
  · have e : shape k = 7 := by unfold shape; (repeat' split) <;> omega
    rw [e]
    simp [h19, h20, h21, show ¬ (k = 4 ∨ k = 5) from by omega, show ¬ (6 ≤ k ∧ k ≤ 15) from by omega, show ¬ (16 ≤ k ∧ k ≤ 18) from by omega]

theorem ref_fit (k own n a b c : Int) : refE k own n a b c = fitE k own n a b c := by
  unfold refE fitE
  by_cases hs : shape k = 0
  · rw [if_pos ((takes_shape k).2 hs), if_pos hs]
  rw [if_neg (fun h => hs ((takes_shape k).1 h)), if_neg hs]
  by_cases hb : btw own 1 8 = false
  · rw [if_pos hb, if_pos hb]
  rw [if_neg hb, if_neg hb]
  by_cases hr : rngOk (takes k) a b c = false
  · rw [if_pos hr, if_pos hr]
  rw [if_neg hr, if_neg hr]
  have hb' : btw own 1 8 = true := by simpa using hb
  have hr' : rngOk (takes k) a b c = true := by simpa using hr
  rw [met_ok k own n a b c hs (btw_true.1 hb') (rng_bd hr').1]
  cases okOf k own n a b c <;> by_cases hk : k ≠ 21 ∧ n ≠ 0 <;> simp [hk]

end Go.Proofs.YtabnimgpednhjaaDoor.Ev

namespace Go.Proofs.YtabnimgpednhjaaDoor.Ev
open Go.RowKit
set_option maxRecDepth 100000

/-- What an operation makes. -/
def madeE (k v a b c n wa wb : Int) : Int :=
  if k = 4 then two v - 1 - a
  else if k = 5 then (two v - a) % two v
  else if k = 6 then ((a.toNat &&& b.toNat : Nat) : Int)
  else if k = 7 then ((a.toNat ||| b.toNat : Nat) : Int)
  else if k = 8 then ((a.toNat ^^^ b.toNat : Nat) : Int)
  else if k = 9 then (a + b) % two v
  else if k = 10 then (a + two v - b) % two v
  else if k = 11 then a * b % two v
  else if k = 12 then if b = 0 then two v - 1 else a / b
  else if k = 13 then if b = 0 then a else a % b
  else if k = 14 then if v ≤ b then 0 else a * two b % two v
  else if k = 15 then if v ≤ b then 0 else a / two b
  else if k = 16 then yesOf (a == b)
  else if k = 17 then yesOf (decide (a < b))
  else if k = 18 then yesOf (decide (sgn a wa < sgn b wb))
  else if k = 19 then if a = 1 then b else c
  else if k = 20 then a * two wb + b
  else if k = 21 then a / two n % two v
  else if k = 23 then (sgn a wa + two v) % two v
  else a

theorem fit_zero {k v n a b c : Int} (h : fitE k v n a b c = 0) :
    (1 ≤ v ∧ v ≤ 8) ∧ rngOk (takes k) a b c = true ∧ okOf k v n a b c = true ∧ (k = 21 ∨ n = 0) ∧ (4 ≤ k ∧ k ≤ 23) := by
  rw [← ref_fit] at h
  unfold refE at h
  by_cases h1 : takes k = 0
  · rw [if_pos h1] at h; omega
  rw [if_neg h1] at h
  by_cases h2 : btw v 1 8 = false
  · rw [if_pos h2] at h; omega
  rw [if_neg h2] at h
  by_cases h3 : rngOk (takes k) a b c = false
  · rw [if_pos h3] at h; omega
  rw [if_neg h3] at h
  by_cases h4 : okOf k v n a b c = false ∨ (k ≠ 21 ∧ n ≠ 0)
  · rw [if_pos h4] at h; omega
  refine ⟨btw_true.1 (by simpa using h2), by simpa using h3, ?_, ?_, shape_pos (fun e => h1 ((takes_shape k).2 e))⟩
  · apply Classical.byContradiction
    intro hn
    exact h4 (Or.inl (by simpa using hn))
  · apply Classical.byContradiction
    intro hn
    exact h4 (Or.inr (by omega))

theorem emod_small {x m : Int} (h0 : 0 ≤ x) (h1 : x < m) : x % m = x := Int.emod_eq_of_lt h0 h1

theorem m4 (v a b c n wa wb : Int) (h0 : 0 ≤ a) (h1 : a < two v) : (- a - 1) % two v = madeE 4 v a b c n wa wb := by
  show _ = two v - 1 - a
  have : - a - 1 = (two v - 1 - a) + two v * (-1) := by omega
  rw [this, Int.add_mul_emod_self_left, emod_small (by omega) (by omega)]
theorem m5 (v a b c n wa wb : Int) : (- a) % two v = madeE 5 v a b c n wa wb := by
  show _ = (two v - a) % two v
  have : two v - a = - a + two v * 1 := by omega
  rw [this, Int.add_mul_emod_self_left]
theorem two_nat (v : Int) : two v = ((2 ^ v.toNat : Nat) : Int) := by simp [two]
theorem m6 (v a b c n wa wb : Int) (g0 : 0 ≤ b) (g1 : b < two v) : ((a.toNat &&& b.toNat : Nat) : Int) % two v = madeE 6 v a b c n wa wb := by
  show _ = ((a.toNat &&& b.toNat : Nat) : Int)
  have : a.toNat &&& b.toNat < 2 ^ v.toNat := Nat.and_lt_two_pow _ (by rw [two_nat] at g1; omega)
  exact emod_small (by omega) (by rw [two_nat]; omega)
theorem m7 (v a b c n wa wb : Int) (h0 : 0 ≤ a) (h1 : a < two v) (g0 : 0 ≤ b) (g1 : b < two v) : ((a.toNat ||| b.toNat : Nat) : Int) % two v = madeE 7 v a b c n wa wb := by
  show _ = ((a.toNat ||| b.toNat : Nat) : Int)
  have : a.toNat ||| b.toNat < 2 ^ v.toNat := Nat.or_lt_two_pow (by rw [two_nat] at h1; omega) (by rw [two_nat] at g1; omega)
  exact emod_small (by omega) (by rw [two_nat]; omega)
theorem m8 (v a b c n wa wb : Int) (h0 : 0 ≤ a) (h1 : a < two v) (g0 : 0 ≤ b) (g1 : b < two v) : ((a.toNat ^^^ b.toNat : Nat) : Int) % two v = madeE 8 v a b c n wa wb := by
  show _ = ((a.toNat ^^^ b.toNat : Nat) : Int)
  have : a.toNat ^^^ b.toNat < 2 ^ v.toNat := Nat.xor_lt_two_pow (by rw [two_nat] at h1; omega) (by rw [two_nat] at g1; omega)
  exact emod_small (by omega) (by rw [two_nat]; omega)
theorem m9 (v a b c n wa wb : Int) : (a + b) % two v = madeE 9 v a b c n wa wb := rfl
theorem m10 (v a b c n wa wb : Int) : (a - b) % two v = madeE 10 v a b c n wa wb := by
  show _ = (a + two v - b) % two v
  have : a + two v - b = a - b + two v * 1 := by omega
  rw [this, Int.add_mul_emod_self_left]
theorem m11 (v a b c n wa wb : Int) : (a * b) % two v = madeE 11 v a b c n wa wb := rfl
theorem m12 (v a b c n wa wb : Int) (h0 : 0 ≤ a) (h1 : a < two v) (g0 : 0 ≤ b) : divE a b % two v = madeE 12 v a b c n wa wb := by
  show _ = if b = 0 then two v - 1 else a / b
  unfold divE
  by_cases hb : b = 0
  · rw [if_pos hb, if_pos hb]
    have : (-1 : Int) = (two v - 1) + two v * (-1) := by omega
    rw [this, Int.add_mul_emod_self_left, emod_small (by omega) (by omega)]
  · rw [if_neg hb, if_neg hb]
    have := Int.ediv_le_self b h0
    have := Int.ediv_nonneg h0 g0
    exact emod_small (by omega) (by omega)
theorem m13 (v a b c n wa wb : Int) (h0 : 0 ≤ a) (h1 : a < two v) (g0 : 0 ≤ b) (g1 : b < two v) : remE a b % two v = madeE 13 v a b c n wa wb := by
  show _ = if b = 0 then a else a % b
  unfold remE
  by_cases hb : b = 0
  · rw [if_pos hb]
    exact emod_small (by omega) (by omega)
  · rw [if_neg hb]
    have := Int.emod_lt_of_pos a (show 0 < b from by omega)
    have := Int.emod_nonneg a hb
    exact emod_small (by omega) (by omega)
theorem two_pos (v : Int) : 0 < two v := Int.pow_pos (by decide)
theorem m14 (v a b c n wa wb : Int) : shlE v a b % two v = madeE 14 v a b c n wa wb := by
  show _ = if v ≤ b then 0 else a * two b % two v
  unfold shlE
  by_cases hb : v ≤ b
  · rw [if_pos hb, if_pos hb]; rfl
  · rw [if_neg hb, if_neg hb]
theorem m15 (v a b c n wa wb : Int) (h0 : 0 ≤ a) (h1 : a < two v) : shrE v a b % two v = madeE 15 v a b c n wa wb := by
  show _ = if v ≤ b then 0 else a / two b
  unfold shrE
  by_cases hb : v ≤ b
  · rw [if_pos hb]; rfl
  · rw [if_neg hb]
    have := Int.ediv_le_self (two b) h0
    have := Int.ediv_nonneg h0 (Int.le_of_lt (two_pos b))
    exact emod_small (by omega) (by omega)
theorem m23 (v a b c n wa wb : Int) : sgn a wa % two v = madeE 23 v a b c n wa wb := by
  show _ = (sgn a wa + two v) % two v
  have : sgn a wa + two v = sgn a wa + two v * 1 := by omega
  rw [this, Int.add_mul_emod_self_left]

end Go.Proofs.YtabnimgpednhjaaDoor.Ev

namespace Go.Proofs.YtabnimgpednhjaaDoor.Ev
open Go.RowKit
set_option maxRecDepth 100000

theorem bcell {W w1 : World} (hb : Below W.heap.size W w1) (b o : Nat) (h : b < W.heap.size) : w1.cell? ⟨b, o, none⟩ = W.cell? ⟨b, o, none⟩ := hb.cell (p := ⟨b, o, none⟩) h

theorem box3 {w w1 : World} {a b c : Int} (hb : Below (w.alloc (.cells #[.int .i64 a, .int .i64 b, .int .i64 c] 108)).heap.size (w.alloc (.cells #[.int .i64 a, .int .i64 b, .int .i64 c] 108)) w1) :
    w1.cell? ⟨w.heap.size, 0, none⟩ = some (.int .i64 a) ∧ w1.cell? ⟨w.heap.size, 1, none⟩ = some (.int .i64 b) ∧ w1.cell? ⟨w.heap.size, 2, none⟩ = some (.int .i64 c) ∧ Below w.heap.size w w1 := by
  refine ⟨?_, ?_, ?_, ((Below.refl _ _).alloc (Nat.le_refl _) _).trans (hb.mono (by simp))⟩
  all_goals
    rw [bcell hb _ _ (by simp)]
    simp [go_sem]

theorem join_or (a b : Int) (wa wb : Int) (hw : wa + wb ≤ 8) (ha0 : 0 ≤ wa) (hb0 : 0 ≤ wb) (h0 : 0 ≤ a) (h1 : a < two wa) (g0 : 0 ≤ b) (g1 : b < two wb) :
    a * two wb < 256 ∧ (((a * two wb).toNat ||| b.toNat : Nat) : Int) = a * two wb + b := by
  obtain ⟨i, rfl⟩ := Int.eq_ofNat_of_zero_le ha0
  obtain ⟨j, rfl⟩ := Int.eq_ofNat_of_zero_le hb0
  obtain ⟨x, rfl⟩ := Int.eq_ofNat_of_zero_le h0
  obtain ⟨y, rfl⟩ := Int.eq_ofNat_of_zero_le g0
  rw [two_nat] at *
  simp only [Int.toNat_natCast] at *
  have hx : x < 2 ^ i := by omega
  have hy : y < 2 ^ j := by omega
  have hm : x * 2 ^ j < 2 ^ i * 2 ^ j := Nat.mul_lt_mul_of_pos_right hx (Nat.two_pow_pos j)
  rw [← Nat.pow_add] at hm
  have hp : 2 ^ (i + j) ≤ 2 ^ 8 := Nat.pow_le_pow_right (by omega) (by omega)
  have e : ((x : Int) * ((2 ^ j : Nat) : Int)) = ((x * 2 ^ j : Nat) : Int) := by simp
  rw [e, Int.toNat_natCast]
  refine ⟨by omega, ?_⟩
  rw [nat_join j (x * 2 ^ j) y (Nat.mul_mod_left _ _) hy]
  omega

theorem ret2 {a b d : Int} (h : a = b) : Ending.returned (.tuple #[.int .i64 a, .int .i64 d]) = .returned (.tuple #[.int .i64 b, .int .i64 d]) := by rw [h]

end Go.Proofs.YtabnimgpednhjaaDoor.Ev

namespace Go.Proofs.YtabnimgpednhjaaDoor.Ev
open Go.RowKit
set_option maxRecDepth 100000


end Go.Proofs.YtabnimgpednhjaaDoor.Ev

namespace Go.Proofs.YtabnimgpednhjaaDoor.Ev
open Go.RowKit
set_option maxRecDepth 100000

/-- Are all three words of their widths? -/
def allW (a b c wa wb wc : Int) : Bool := isW a wa && isW b wb && isW c wc

/-- Apply's error. -/
def apE (k v a b c n wa wb wc : Int) : Int :=
  if fitE k v n wa wb wc = 0 then (if allW a b c wa wb wc then 0 else 3) else fitE k v n wa wb wc
/-- Apply's word. -/
def apV (k v a b c n wa wb wc : Int) : Int :=
  if apE k v a b c n wa wb wc = 0 then madeE k v a b c n wa wb else 0

theorem ret2' {a b d f : Int} (h : a = b) (h' : d = f) : Ending.returned (.tuple #[.int .i64 a, .int .i64 d]) = .returned (.tuple #[.int .i64 b, .int .i64 f]) := by rw [h, h']

theorem kinds20 {k : Int} (h : 4 ≤ k ∧ k ≤ 23) : k = 4 ∨ k = 5 ∨ k = 6 ∨ k = 7 ∨ k = 8 ∨ k = 9 ∨ k = 10 ∨ k = 11 ∨ k = 12 ∨ k = 13 ∨ k = 14 ∨ k = 15 ∨ k = 16 ∨ k = 17 ∨ k = 18 ∨ k = 19 ∨ k = 20 ∨ k = 21 ∨ k = 22 ∨ k = 23 := by omega

end Go.Proofs.YtabnimgpednhjaaDoor.Ev

namespace Go.Proofs.YtabnimgpednhjaaDoor.Ev
open Go.RowKit
set_option maxRecDepth 100000

theorem fitE_begun : fitE 9 4 0 4 4 0 = 0 := by decide
theorem apE_begun : apE 9 4 9 9 0 0 4 4 0 = 0 := by decide
theorem apV_begun : apV 9 4 9 9 0 0 4 4 0 = 2 := by decide

/-- From one world to the next, below what was there first. -/
theorem bthen {w w1 w2 : World} (h : Below w.heap.size w w1) (k : Below w1.heap.size w1 w2) : Below w.heap.size w w2 := h.trans (k.mono h.size)

end Go.Proofs.YtabnimgpednhjaaDoor.Ev
