/- Words: what the small calls of Apply return. -/
import Derived.Test.YtabnimgpednhjaaGreatDoorJbM
import Derived.Deep.Light
import Derived.Deep.RegionWith
namespace Go.Proofs.YtabnimgpednhjaaGreatDoor.Ev
open Go.RowKit
set_option maxRecDepth 100000

/-- Two to the power of w. -/
def two (w : Int) : Int := 2 ^ w.toNat
theorem two0 : two 0 = 1 := rfl
theorem two1 : two 1 = 2 := rfl
theorem two2 : two 2 = 4 := rfl
theorem two3 : two 3 = 8 := rfl
theorem two4 : two 4 = 16 := rfl
theorem two5 : two 5 = 32 := rfl
theorem two6 : two 6 = 64 := rfl
theorem two7 : two 7 = 128 := rfl
theorem two8 : two 8 = 256 := rfl

theorem nine {w : Int} (h : 0 ≤ w ∧ w ≤ 8) : w = 0 ∨ w = 1 ∨ w = 2 ∨ w = 3 ∨ w = 4 ∨ w = 5 ∨ w = 6 ∨ w = 7 ∨ w = 8 := by omega

theorem eight_lo {w : Int} (h : 0 ≤ w ∧ w ≤ 7) : w = 0 ∨ w = 1 ∨ w = 2 ∨ w = 3 ∨ w = 4 ∨ w = 5 ∨ w = 6 ∨ w = 7 := by omega

theorem ofInt64_toNat (x : Int) : ((BitVec.ofInt 64 x).toNat : Int) = x % 18446744073709551616 := by
  rw [BitVec.toNat_ofInt]
  have : (0 : Int) ≤ x % 18446744073709551616 := Int.emod_nonneg _ (by decide)
  show ((x % (2 ^ 64 : Nat)).toNat : Int) = _
  rw [show ((2 ^ 64 : Nat) : Int) = 18446744073709551616 from rfl]
  omega

theorem wrap_small (n : Nat) (h : n < 256) : IntKind.i64.wrap (n : Int) = n := by
  rw [IntKind.wrap_i64]
  omega

theorem mask_nat (x : Int) (i : Nat) (hi : i ≤ 8) : (((BitVec.ofInt 64 x).toNat % 2 ^ i : Nat) : Int) = x % 2 ^ i := by
  rw [Int.natCast_emod, ofInt64_toNat]
  have h : ((2 ^ i : Nat) : Int) = 2 ^ i := by simp
  rw [h]
  apply Int.emod_emod_of_dvd
  exact ⟨2 ^ (64 - i), by rw [← Int.pow_add]; rw [show i + (64 - i) = 64 from by omega]; rfl⟩

theorem bits_mask (x : Int) (i : Nat) (hi : i ≤ 8) (m : Int) (hm : m = (2 ^ i - 1 : Nat)) : bits .and .i64 x m = x % 2 ^ i := by
  subst hm
  show IntKind.i64.wrap ((BitVec.ofInt 64 x &&& BitVec.ofInt 64 ((2 ^ i - 1 : Nat) : Int)).toNat : Int) = _
  have h2 : 2 ^ i ≤ 2 ^ 8 := Nat.pow_le_pow_right (by omega) hi
  have h0 : 0 < 2 ^ i := Nat.two_pow_pos i
  rw [BitVec.toNat_and, BitVec.ofInt_natCast, BitVec.toNat_ofNat, Nat.mod_eq_of_lt (a := 2 ^ i - 1) (by omega), Nat.and_two_pow_sub_one_eq_mod]
  have hlt : (BitVec.ofInt 64 x).toNat % 2 ^ i < 2 ^ i := Nat.mod_lt _ h0
  rw [wrap_small _ (by omega), mask_nat x i hi]

/-- Is it a word of so many bits? -/
def isW (x v : Int) : Bool := decide (0 ≤ x ∧ x < two v)
theorem isW_iff {x v : Int} : isW x v = true ↔ 0 ≤ x ∧ x < two v := by simp [isW]

set_option maxHeartbeats 400000 in
theorem isWord_any (x v : Int) (hv : 0 ≤ v ∧ v ≤ 8) (w : World) :
    Calls Tryz.prog 76 #[.int .i64 x, .int .i64 v] w fun e w' => e = .returned (.bool (isW x v)) ∧ w' = w := by
  rcases nine hv with rfl | rfl | rfl | rfl | rfl | rfl | rfl | rfl | rfl
  all_goals
    go_enter Tryz.func76, Tryz.ntmps76
    go_wp2
    all_goals
      go_ret
      exact ⟨ret_bool (by rw [Bool.eq_iff_iff, isW_iff]; simp [two0, two1, two2, two3, two4, two5, two6, two7, two8]; try omega), rfl⟩

/-- A word's number, where its upmost bit counts as its opposite. -/
def sgn (a v : Int) : Int := if a < two (v - 1) then a else a - two v

theorem two_bd {v : Int} (hv : 0 ≤ v ∧ v ≤ 8) : 1 ≤ two v ∧ two v ≤ 256 := by
  rcases nine hv with rfl | rfl | rfl | rfl | rfl | rfl | rfl | rfl | rfl <;> simp [two]

end Go.Proofs.YtabnimgpednhjaaGreatDoor.Ev

namespace Go.Proofs.YtabnimgpednhjaaGreatDoor.Ev
open Go.RowKit
set_option maxRecDepth 100000

theorem toNat64 (a : Nat) (ha : a < 256) : (BitVec.ofInt 64 (a : Int)).toNat = a := by
  rw [BitVec.ofInt_natCast, BitVec.toNat_ofNat]; exact Nat.mod_eq_of_lt (by omega)

theorem i64_and (a b : Int) (h1 : 0 ≤ a) (h2 : a < 256) (h3 : 0 ≤ b) (h4 : b < 256) : bits .and .i64 a b = ((a.toNat &&& b.toNat : Nat) : Int) := by
  obtain ⟨A, rfl⟩ := Int.eq_ofNat_of_zero_le h1
  obtain ⟨B, rfl⟩ := Int.eq_ofNat_of_zero_le h3
  have hx : A &&& B < 2 ^ 8 := Nat.and_lt_two_pow _ (by omega)
  show IntKind.i64.wrap ((BitVec.ofInt 64 (A : Int) &&& BitVec.ofInt 64 (B : Int)).toNat : Int) = _
  rw [BitVec.toNat_and, toNat64 A (by omega), toNat64 B (by omega), wrap_small _ (by omega)]
  simp

theorem i64_or (a b : Int) (h1 : 0 ≤ a) (h2 : a < 256) (h3 : 0 ≤ b) (h4 : b < 256) : bits .or .i64 a b = ((a.toNat ||| b.toNat : Nat) : Int) := by
  obtain ⟨A, rfl⟩ := Int.eq_ofNat_of_zero_le h1
  obtain ⟨B, rfl⟩ := Int.eq_ofNat_of_zero_le h3
  have hx : A ||| B < 2 ^ 8 := Nat.or_lt_two_pow (by omega) (by omega)
  show IntKind.i64.wrap ((BitVec.ofInt 64 (A : Int) ||| BitVec.ofInt 64 (B : Int)).toNat : Int) = _
  rw [BitVec.toNat_or, toNat64 A (by omega), toNat64 B (by omega), wrap_small _ (by omega)]
  simp

theorem i64_xor (a b : Int) (h1 : 0 ≤ a) (h2 : a < 256) (h3 : 0 ≤ b) (h4 : b < 256) : bits .xor .i64 a b = ((a.toNat ^^^ b.toNat : Nat) : Int) := by
  obtain ⟨A, rfl⟩ := Int.eq_ofNat_of_zero_le h1
  obtain ⟨B, rfl⟩ := Int.eq_ofNat_of_zero_le h3
  have hx : A ^^^ B < 2 ^ 8 := Nat.xor_lt_two_pow (by omega) (by omega)
  show IntKind.i64.wrap ((BitVec.ofInt 64 (A : Int) ^^^ BitVec.ofInt 64 (B : Int)).toNat : Int) = _
  rw [BitVec.toNat_xor, toNat64 A (by omega), toNat64 B (by omega), wrap_small _ (by omega)]
  simp

theorem i64_not (a : Int) (h1 : 0 ≤ a) (h2 : a < 256) : bits .xor .i64 (-1) a = - a - 1 := by
  obtain ⟨A, rfl⟩ := Int.eq_ofNat_of_zero_le h1
  show IntKind.i64.wrap ((BitVec.ofInt 64 (-1) ^^^ BitVec.ofInt 64 (A : Int)).toNat : Int) = _
  rw [show BitVec.ofInt 64 (-1) = BitVec.allOnes 64 from by decide, BitVec.allOnes_xor, BitVec.toNat_not, toNat64 A (by omega), IntKind.wrap_i64]
  omega

/-- How often; what is left; up; down. -/
def divE (a b : Int) : Int := if b = 0 then -1 else a / b
def remE (a b : Int) : Int := if b = 0 then a else a % b
def shlE (v a b : Int) : Int := if v ≤ b then 0 else a * two b
def shrE (v a b : Int) : Int := if v ≤ b then 0 else a / two b

/-- 1 or 0. -/
def yesOf (b : Bool) : Int := if b then 1 else 0

end Go.Proofs.YtabnimgpednhjaaGreatDoor.Ev

namespace Go.Proofs.YtabnimgpednhjaaGreatDoor.Ev
open Go.RowKit
set_option maxRecDepth 100000

/-- Three widths, as a value. -/
abbrev arr3 (a b c : Int) : Value := .agg #[.int .i64 a, .int .i64 b, .int .i64 c]

def rngOk (t a b c : Int) : Bool :=
  (if 0 < t then btw a 1 8 else a == 0) && (if 1 < t then btw b 1 8 else b == 0) && (if 2 < t then btw c 1 8 else c == 0)

def metOk (o da db dc own n a b c : Int) : Bool :=
  askOk o own own a n && askOk da a own a n && askOk db b own a n && askOk dc c own a n

set_option maxHeartbeats 400000 in
theorem met_any (o da db dc own n a b c : Int) (w : World)
    (b1 : 0 ≤ own ∧ own ≤ 8) (b2 : 0 ≤ a ∧ a ≤ 8) (b3 : 0 ≤ b ∧ b ≤ 8) (b4 : 0 ≤ c ∧ c ≤ 8) :
    Calls Tryz.prog 91 #[dm o da db dc, .int .i64 own, .int .i64 n, arr3 a b c] w fun e w' => e = .returned (.bool (metOk o da db dc own n a b c)) ∧ w' = (((w.alloc (.cells #[.int .i64 o, .int .i64 da, .int .i64 db, .int .i64 dc] 130)).alloc (.cells #[.int .i64 own] 3)).alloc (.cells #[.int .i64 n] 3)).alloc (.cells #[.int .i64 a, .int .i64 b, .int .i64 c] 86) := by
  have hmf : ∀ (fn : Fn) (first cap : Array Value) (w : World), (Instr.makeFunc fn first cap).run Tryz.prog w = .ok (.func fn first cap) w := fun _ _ _ _ => rfl
  go_enter Tryz.func91, Tryz.ntmps91
  go_wp2_with (go_at_call 104; refine (meets_any _ _ own n a _ _ _ _ (by simp [go_sem]) (by simp [go_sem]) (by simp [go_sem]) (by omega) (by omega) (by omega)).mono ?_; rintro e w' ⟨rfl, rfl⟩)
  all_goals
    go_ret
    exact ⟨ret_bool (by unfold metOk; simp [*]), rfl⟩

set_option maxRecDepth 100000 in
set_option maxHeartbeats 1000000 in
theorem inRange_at (k a b c t : Int) (ht : takes k = t) (h4 : t = 0 ∨ t = 1 ∨ t = 2 ∨ t = 3) (w : World) :
    Calls Tryz.prog 90 #[.int .i64 k, arr3 a b c] w fun e w' => e = .returned (.bool (rngOk t a b c)) ∧ w' = w.alloc (.cells #[.int .i64 a, .int .i64 b, .int .i64 c] 86) := by
  have i0 : ∀ w : World, (Instr.index 86 (arr3 a b c) (.int .i64 0)).run Tryz.prog w = .ok (.int .i64 a) w := fun _ => by kernel_rfl
  have i1 : ∀ w : World, (Instr.index 86 (arr3 a b c) (.int .i64 1)).run Tryz.prog w = .ok (.int .i64 b) w := fun _ => by kernel_rfl
  have i2 : ∀ w : World, (Instr.index 86 (arr3 a b c) (.int .i64 2)).run Tryz.prog w = .ok (.int .i64 c) w := fun _ => by kernel_rfl
  rcases h4 with rfl | rfl | rfl | rfl
  all_goals
    have hw := words_any k
    rw [ht] at hw
    have hw' : Hid _ := hw
    clear hw ht
    go_enter Tryz.func90, Tryz.ntmps90
    go_wp2_with (go_at_call 66; refine (hw'.out _).mono ?_; rintro e w' ⟨rfl, rfl⟩)
    refine wp_loop_rounds 4 ?_
    rw [rounds_succ]
    go_wp2_with (go_at_call 51; refine (isWidth_any _ _).mono ?_; rintro e w' ⟨rfl, rfl⟩)
    all_goals try (rw [rounds_succ]; go_wp2_with (go_at_call 51; refine (isWidth_any _ _).mono ?_; rintro e w' ⟨rfl, rfl⟩))
    all_goals try (rw [rounds_succ]; go_wp2_with (go_at_call 51; refine (isWidth_any _ _).mono ?_; rintro e w' ⟨rfl, rfl⟩))
    all_goals try (rw [rounds_succ]; go_wp2_with (go_at_call 51; refine (isWidth_any _ _).mono ?_; rintro e w' ⟨rfl, rfl⟩))
    all_goals
      go_ret
      exact ⟨ret_bool (by unfold rngOk; simp_all), rfl⟩

theorem takes_four (k : Int) : takes k = 0 ∨ takes k = 1 ∨ takes k = 2 ∨ takes k = 3 := by
  unfold takes
  (repeat' split) <;> simp

theorem inRange_any (k a b c : Int) (w : World) :
    Calls Tryz.prog 90 #[.int .i64 k, arr3 a b c] w fun e w' => e = .returned (.bool (rngOk (takes k) a b c)) ∧ w' = w.alloc (.cells #[.int .i64 a, .int .i64 b, .int .i64 c] 86) :=
  inRange_at k a b c _ rfl (takes_four k) w

theorem bal {w w1 : World} (h : Below w.heap.size w w1) (o : Obj) : Below w.heap.size w (w1.alloc o) := h.alloc h.size o

end Go.Proofs.YtabnimgpednhjaaGreatDoor.Ev

namespace Go.Proofs.YtabnimgpednhjaaGreatDoor.Ev
open Go.RowKit
set_option maxRecDepth 100000

def metS (s own n a b c : Int) : Bool :=
  if s = 1 then metOk 0 2 0 0 own n a b c else if s = 2 then metOk 0 2 2 0 own n a b c else if s = 3 then metOk 1 0 3 0 own n a b c
  else if s = 4 then metOk 0 1 2 2 own n a b c else if s = 5 then metOk 0 0 4 0 own n a b c else if s = 6 then metOk 0 5 0 0 own n a b c else metOk 0 6 0 0 own n a b c

/-- What Fit returns. -/
def fitE (k own n a b c : Int) : Int :=
  if shape k = 0 then 7 else if btw own 1 8 = false then 3 else if rngOk (takes k) a b c = false then 3
  else if k ≠ 21 ∧ n ≠ 0 then 1 else if metS (shape k) own n a b c then 0 else 1

theorem run_lk (w : World) (k : Int) (r : Option (Nat × Value)) (v : Value) (ok : Bool) 
    (h : Instr.findNow (.int .i64) (.int .i64 k) dmMap.toList 0 = some r) (h2 : (r.map (·.2)).getD (dm 0 0 0 0) = v) (h3 : r.isSome = ok) :
    (Instr.lookup 132 (.map (some w.heap.size)) (.int .i64 k) true).run Tryz.prog (w.alloc (.map dmMap 7)) = .ok (.tuple #[v, .bool ok]) (w.alloc (.map dmMap 7)) := by
  have hb : (w.alloc (.map dmMap 7)).heap[w.heap.size]? = some (.map dmMap 7) := (MapKept.heap_alloc w _).1
  have hk : (Instr.checkKey dmMap.isEmpty 10000 134 (.int .i64 k)).run Tryz.prog (w.alloc (.map dmMap 7)) = .ok () (w.alloc (.map dmMap 7)) := checkKey_int Tryz.underlying134 dmMap.isEmpty 9999 (.int .i64 k) (w.alloc (.map dmMap 7))
  have hz : (zeroValue 130).run Tryz.prog (w.alloc (.map dmMap 7)) = .ok (dm 0 0 0 0) (w.alloc (.map dmMap 7)) := by kernel_rfl
  unfold Instr.lookup
  simp only [Sem.run_bind, run_underlying Tryz.underlying132, MapKept.run_getObj_map hb, Result.andThen]
  subst h2 h3
  cases r with
  | none => simp [Instr.findKey, run_underlying Tryz.underlying134, h, hz, hk]
  | some p => simp [Instr.findKey, run_underlying Tryz.underlying134, h, hk]


theorem shape_eight (k : Int) : shape k = 0 ∨ shape k = 1 ∨ shape k = 2 ∨ shape k = 3 ∨ shape k = 4 ∨ shape k = 5 ∨ shape k = 6 ∨ shape k = 7 := by
  unfold shape
  (repeat' split) <;> simp

/-- Fit, with what the map has at the kind's shape. -/
theorem fit_none (k own n a b c : Int) (w : World) (hs : shape k = 0) :
    Calls Tryz.prog 75 #[.int .i64 k, .int .i64 own, .int .i64 n, arr3 a b c] w fun e w' => e = .returned (.int .i64 (fitE k own n a b c)) ∧ Below w.heap.size w w' := by
  have hl := run_lk (w.alloc (.cells #[.int .i64 a, .int .i64 b, .int .i64 c] 86)) 0 none (dm 0 0 0 0) false (by rfl) rfl rfl
  rw [show (w.alloc (.cells #[.int .i64 a, .int .i64 b, .int .i64 c] 86)).heap.size = w.heap.size + 1 from by simp] at hl
  have hfin : fitE k own n a b c = 7 := by unfold fitE; rw [if_pos hs]
  have Hfin : Hid _ := hfin
  have hsh := shapeOf_any k
  rw [hs] at hsh
  have Hsh : Hid _ := hsh
  clear hfin hsh hs
  go_enter Tryz.func75, Tryz.ntmps75
  go_wp2_with (first | (go_at_call 88; refine (demands_any _).mono ?_; rintro e w' ⟨rfl, rfl⟩) | (go_at_call 89; refine (Hsh.out _).mono ?_; rintro e w' ⟨rfl, rfl⟩))
  go_ret
  exact ⟨ret_int Hfin.out.symm, bal (bal (bal (Below.refl _ _) _) _) _⟩


def fitR (k own n a b c : Int) (m : Bool) : Int :=
  if btw own 1 8 = false then 3 else if rngOk (takes k) a b c = false then 3
  else if k ≠ 21 ∧ n ≠ 0 then 1 else if m then 0 else 1

theorem btw_bd {x : Int} (h : btw x 1 8 = true) : 0 ≤ x ∧ x ≤ 8 := by rw [btw_true] at h; omega

theorem rng_bd {t a b c : Int} (h : rngOk t a b c = true) : (0 ≤ a ∧ a ≤ 8) ∧ (0 ≤ b ∧ b ≤ 8) ∧ (0 ≤ c ∧ c ≤ 8) := by
  unfold rngOk at h
  simp only [Bool.and_eq_true] at h
  obtain ⟨⟨h1, h2⟩, h3⟩ := h
  refine ⟨?_, ?_, ?_⟩
  · split at h1
    · exact btw_bd h1
    · simp at h1; omega
  · split at h2
    · exact btw_bd h2
    · simp at h2; omega
  · split at h3
    · exact btw_bd h3
    · simp at h3; omega

set_option maxRecDepth 100000 in
set_option maxHeartbeats 1000000 in
theorem fit_some (k own n a b c s o da db dc : Int) (i : Nat) (w : World) (hs : shape k = s) 
    (hf : Instr.findNow (.int .i64) (.int .i64 s) dmMap.toList 0 = some (some (i, dm o da db dc))) :
    Calls Tryz.prog 75 #[.int .i64 k, .int .i64 own, .int .i64 n, arr3 a b c] w fun e w' => e = .returned (.int .i64 (fitR k own n a b c (metOk o da db dc own n a b c))) ∧ Below w.heap.size w w' := by
  have hl := run_lk (w.alloc (.cells #[.int .i64 a, .int .i64 b, .int .i64 c] 86)) s (some (i, dm o da db dc)) (dm o da db dc) true hf rfl rfl
  rw [show (w.alloc (.cells #[.int .i64 a, .int .i64 b, .int .i64 c] 86)).heap.size = w.heap.size + 1 from by simp] at hl
  have hsh := shapeOf_any k
  rw [hs] at hsh
  have Hsh : Hid _ := hsh
  clear hsh hs hf
  by_cases hb : btw own 1 8 = true
  · have hbd := btw_bd hb
    by_cases hr : rngOk (takes k) a b c = true
    · obtain ⟨ba, bb, bc⟩ := rng_bd hr
      by_cases hk : (k != 21) = true
      · by_cases hn : (n != 0) = true
        · have Hfin : Hid (fitR k own n a b c (metOk o da db dc own n a b c) = 1) := by
            unfold fitR; simp only [bne_iff_ne] at hk hn; simp [hb, hr, hk, hn, Hid]
          go_enter Tryz.func75, Tryz.ntmps75
          go_wp2_with (first | (go_at_call 88; refine (demands_any _).mono ?_; rintro e w' ⟨rfl, rfl⟩) | (go_at_call 89; refine (Hsh.out _).mono ?_; rintro e w' ⟨rfl, rfl⟩) | (go_at_call 51; refine (isWidth_any _ _).mono ?_; rintro e w' ⟨rfl, rfl⟩) | (go_at_call 90; refine (inRange_any _ _ _ _ _).mono ?_; rintro e w' ⟨rfl, rfl⟩))
          go_ret
          exact ⟨ret_int Hfin.out.symm, bal (bal (bal (bal (Below.refl _ _) _) _) _) _⟩
        · have hn' : (n != 0) = false := by simpa using hn
          have Hfin : Hid (fitR k own n a b c (metOk o da db dc own n a b c) = if metOk o da db dc own n a b c then 0 else 1) := by
            unfold fitR; have : n = 0 := by simpa using hn'
            simp [hb, hr, this, Hid]
          clear hn
          generalize hm : metOk o da db dc own n a b c = m at *
          have hmet := fun w => met_any o da db dc own n a b c w hbd ba bb bc
          rw [hm] at hmet
          have Hmet : Hid _ := hmet
          clear hmet hm
          cases m
          all_goals
            go_enter Tryz.func75, Tryz.ntmps75
            go_wp2_with (first | (go_at_call 88; refine (demands_any _).mono ?_; rintro e w' ⟨rfl, rfl⟩) | (go_at_call 89; refine (Hsh.out _).mono ?_; rintro e w' ⟨rfl, rfl⟩) | (go_at_call 51; refine (isWidth_any _ _).mono ?_; rintro e w' ⟨rfl, rfl⟩) | (go_at_call 90; refine (inRange_any _ _ _ _ _).mono ?_; rintro e w' ⟨rfl, rfl⟩) | (go_at_call 91; refine (Hmet.out _).mono ?_; rintro e w' ⟨rfl, rfl⟩))
            go_ret
            exact ⟨ret_int (by rw [Hfin.out]; simp), by repeat (first | exact Below.refl _ _ | refine bal ?_ _)⟩
      · have hk' : (k != 21) = false := by simpa using hk
        have Hfin : Hid (fitR k own n a b c (metOk o da db dc own n a b c) = if metOk o da db dc own n a b c then 0 else 1) := by
          unfold fitR; have : k = 21 := by simpa using hk'
          subst this; simp [hb, hr, Hid]
        clear hk
        generalize hm : metOk o da db dc own n a b c = m at *
        have hmet := fun w => met_any o da db dc own n a b c w hbd ba bb bc
        rw [hm] at hmet
        have Hmet : Hid _ := hmet
        clear hmet hm
        cases m
        all_goals
          go_enter Tryz.func75, Tryz.ntmps75
          go_wp2_with (first | (go_at_call 88; refine (demands_any _).mono ?_; rintro e w' ⟨rfl, rfl⟩) | (go_at_call 89; refine (Hsh.out _).mono ?_; rintro e w' ⟨rfl, rfl⟩) | (go_at_call 51; refine (isWidth_any _ _).mono ?_; rintro e w' ⟨rfl, rfl⟩) | (go_at_call 90; refine (inRange_any _ _ _ _ _).mono ?_; rintro e w' ⟨rfl, rfl⟩) | (go_at_call 91; refine (Hmet.out _).mono ?_; rintro e w' ⟨rfl, rfl⟩))
          go_ret
          exact ⟨ret_int (by rw [Hfin.out]; simp), by repeat (first | exact Below.refl _ _ | refine bal ?_ _)⟩
    · have hr' : rngOk (takes k) a b c = false := by simpa using hr
      have Hfin : Hid (fitR k own n a b c (metOk o da db dc own n a b c) = 3) := by
        unfold fitR; simp [hb, hr', Hid]
      clear hr
      go_enter Tryz.func75, Tryz.ntmps75
      go_wp2_with (first | (go_at_call 88; refine (demands_any _).mono ?_; rintro e w' ⟨rfl, rfl⟩) | (go_at_call 89; refine (Hsh.out _).mono ?_; rintro e w' ⟨rfl, rfl⟩) | (go_at_call 51; refine (isWidth_any _ _).mono ?_; rintro e w' ⟨rfl, rfl⟩) | (go_at_call 90; refine (inRange_any _ _ _ _ _).mono ?_; rintro e w' ⟨rfl, rfl⟩))
      go_ret
      exact ⟨ret_int Hfin.out.symm, by repeat (first | exact Below.refl _ _ | refine bal ?_ _)⟩
  · have hb' : btw own 1 8 = false := by simpa using hb
    have Hfin : Hid (fitR k own n a b c (metOk o da db dc own n a b c) = 3) := by
      unfold fitR; simp [hb', Hid]
    clear hb
    go_enter Tryz.func75, Tryz.ntmps75
    go_wp2_with (first | (go_at_call 88; refine (demands_any _).mono ?_; rintro e w' ⟨rfl, rfl⟩) | (go_at_call 89; refine (Hsh.out _).mono ?_; rintro e w' ⟨rfl, rfl⟩) | (go_at_call 51; refine (isWidth_any _ _).mono ?_; rintro e w' ⟨rfl, rfl⟩) | (go_at_call 90; refine (inRange_any _ _ _ _ _).mono ?_; rintro e w' ⟨rfl, rfl⟩))
    go_ret
    exact ⟨ret_int Hfin.out.symm, by repeat (first | exact Below.refl _ _ | refine bal ?_ _)⟩

theorem fitE_some (k own n a b c : Int) (h : shape k ≠ 0) : fitE k own n a b c = fitR k own n a b c (metS (shape k) own n a b c) := by
  unfold fitE fitR
  rw [if_neg h]

theorem fit_any (k own n a b c : Int) (w : World) :
    Calls Tryz.prog 75 #[.int .i64 k, .int .i64 own, .int .i64 n, arr3 a b c] w fun e w' => e = .returned (.int .i64 (fitE k own n a b c)) ∧ Below w.heap.size w w' := by
  rcases shape_eight k with h | h | h | h | h | h | h | h
  · exact fit_none k own n a b c w h
  · rw [fitE_some k own n a b c (by omega), h]; exact fit_some k own n a b c 1 _ _ _ _ 0 w h rfl
  · rw [fitE_some k own n a b c (by omega), h]; exact fit_some k own n a b c 2 _ _ _ _ 1 w h rfl
  · rw [fitE_some k own n a b c (by omega), h]; exact fit_some k own n a b c 3 _ _ _ _ 2 w h rfl
  · rw [fitE_some k own n a b c (by omega), h]; exact fit_some k own n a b c 4 _ _ _ _ 3 w h rfl
  · rw [fitE_some k own n a b c (by omega), h]; exact fit_some k own n a b c 5 _ _ _ _ 4 w h rfl
  · rw [fitE_some k own n a b c (by omega), h]; exact fit_some k own n a b c 6 _ _ _ _ 5 w h rfl
  · rw [fitE_some k own n a b c (by omega), h]; exact fit_some k own n a b c 7 _ _ _ _ 6 w h rfl

end Go.Proofs.YtabnimgpednhjaaGreatDoor.Ev
