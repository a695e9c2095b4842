/- The small calls of package word, basics and latchworkref: what each returns; none of them changes what was there. -/
import Derived.Test.YtjhkecnnhddhbaaGreatDoorProg
import Derived.WalkKit
import Derived.WalkSpells
import Derived.WalkLawsBesides
import Derived.Deep.Light
import Derived.Deep.RegionWith
namespace Go.Proofs.YtjhkecnnhddhbaaGreatDoor.Ev
open Go.RowKit
set_option maxRecDepth 100000
theorem ret_int {k : IntKind} {a b : Int} (h : a = b) : Ending.returned (.int k a) = .returned (.int k b) := by rw [h]
theorem ret_bool {a b : Bool} (h : a = b) : Ending.returned (.bool a) = .returned (.bool b) := by rw [h]
def btw (n lo hi : Int) : Bool := decide (lo ≤ n) && decide (n ≤ hi)
theorem btw_true {n lo hi : Int} : btw n lo hi = true ↔ lo ≤ n ∧ n ≤ hi := by simp [btw]
theorem btw_false {n lo hi : Int} : btw n lo hi = false ↔ ¬ (lo ≤ n ∧ n ≤ hi) := by rw [← btw_true]; simp
set_option maxHeartbeats 400000 in
theorem isWidth_any (x : Int) (w : World) :
   Calls Tryz.prog 106 #[.int .i64 x] w fun e w' => e = .returned (.bool (btw x 1 8)) ∧ w' = w := by
 go_enter Tryz.func106, Tryz.ntmps106
 go_wp2
 all_goals
   go_ret
   exact ⟨ret_bool (by rw [Bool.eq_iff_iff, btw_true]; simp; try omega), rfl⟩
set_option maxHeartbeats 400000 in
theorem isOp_any (x : Int) (w : World) :
   Calls Tryz.prog 107 #[.int .i64 x] w fun e w' => e = .returned (.bool (btw x 4 23)) ∧ w' = w := by
 go_enter Tryz.func107, Tryz.ntmps107
 go_wp2
 all_goals
   go_ret
   exact ⟨ret_bool (by rw [Bool.eq_iff_iff, btw_true]; simp; try omega), rfl⟩
set_option maxHeartbeats 400000 in
theorem between_any (x lo hi : Int) (w : World) :
   Calls Tryz.prog 21 #[.int .i64 x, .int .i64 lo, .int .i64 hi] w fun e w' => e = .returned (.bool (btw x lo hi)) ∧ w' = w := by
 go_enter Tryz.func21, Tryz.ntmps21
 go_wp2
 all_goals
   go_ret
   exact ⟨ret_bool (by rw [Bool.eq_iff_iff, btw_true]; simp; try omega), rfl⟩
def takes (k : Int) : Int :=
 if k = 4 ∨ k = 5 ∨ k = 21 ∨ k = 22 ∨ k = 23 then 1 else if k = 19 then 3 else if 6 ≤ k ∧ k ≤ 20 then 2 else 0
set_option maxHeartbeats 400000 in
theorem words_any (x : Int) (w : World) :
   Calls Tryz.prog 131 #[.int .i64 x] w fun e w' => e = .returned (.int .i64 (takes x)) ∧ w' = w := by
 go_enter Tryz.func131, Tryz.ntmps131
 go_wp2
 all_goals
   go_ret
   refine ⟨ret_int ?_, rfl⟩
   simp only [beq_iff_eq, beq_eq_false_iff_ne, ne_eq] at *
   unfold takes
   (repeat' split) <;> omega
def shape (k : Int) : Int :=
 if ¬ (4 ≤ k ∧ k ≤ 23) then 0 else if k ≤ 5 then 1 else if k ≤ 15 then 2 else if k ≤ 18 then 3 else if k = 19 then 4 else if k = 20 then 5 else if k = 21 then 6 else 7
set_option maxHeartbeats 400000 in
theorem shapeOf_any (x : Int) (w : World) :
   Calls Tryz.prog 161 #[.int .i64 x] w fun e w' => e = .returned (.int .i64 (shape x)) ∧ w' = w := by
 go_enter Tryz.func161, Tryz.ntmps161
 go_wp2
 all_goals
   go_ret
   refine ⟨ret_int ?_, rfl⟩
   try simp only [beq_iff_eq, beq_eq_false_iff_ne, ne_eq, Bool.not_eq_true', Bool.not_eq_false', decide_eq_true_eq, decide_eq_false_iff_not] at *
   unfold shape
   (repeat' split) <;> omega
theorem push_set {α : Type} (a : Array α) (x y : α) : (a.push x).setIfInBounds a.size y = a.push y := by
 apply Array.ext'
 simp
theorem checkKey_int {P : Program} {t : TypeId} {q : IntKind} (h : P.underlying t = some (.int q)) (b : Bool) (n : Nat) (v : Value) (w : World) : (Instr.checkKey b (n + 1) t v).run P w = .ok () w := by
 simp [Instr.checkKey, run_underlying h]
theorem run_ins (w : World) (es : Array MapEntry) (c : Nat) (k : Int) (v : Value)
   (h : Instr.findNow (.int .i64) (.int .i64 k) es.toList 0 = some none) :
   (Instr.mapUpdate 181 (.map (some w.heap.size)) (.int .i64 k) v).run Tryz.prog (w.alloc (.map es c)) = .ok () (w.alloc (.map (es.push ⟨.int .i64 k, v, c⟩) (c+1))) := by
 have hb : (w.alloc (.map es c)).heap[w.heap.size]? = some (.map es c) := (MapKept.heap_alloc w _).1
 have hk := checkKey_int Tryz.underlying183 false 9999 (.int .i64 k) (w.alloc (.map es c))
 unfold Instr.mapUpdate
 simp only [Sem.run_bind, run_underlying Tryz.underlying181, MapKept.run_getObj_map hb, Result.andThen, hk]
 simp [Instr.findKey, run_underlying Tryz.underlying183, h,  MapKept.run_setObj_map _ hb]
 show World.mk ((w.heap.push _).setIfInBounds w.heap.size _) _ _ _ _ = World.mk (w.heap.push _) _ _ _ _
 rw [push_set]
 rfl
abbrev dm (o a b c : Int) : Value := .agg #[.int .i64 o, .int .i64 a, .int .i64 b, .int .i64 c]
abbrev dmE (n : Nat) (k : Int) (v : Value) : MapEntry := ⟨.int .i64 k, v, n⟩
def dmMap : Array MapEntry := #[dmE 0 1 (dm 0 2 0 0), dmE 1 2 (dm 0 2 2 0), dmE 2 3 (dm 1 0 3 0), dmE 3 4 (dm 0 1 2 2), dmE 4 5 (dm 0 0 4 0), dmE 5 6 (dm 0 5 0 0), dmE 6 7 (dm 0 6 0 0)]
set_option maxRecDepth 100000 in
set_option maxHeartbeats 400000 in
theorem demands_any (w : World) :
   Calls Tryz.prog 160 #[] w fun e w' => e = .returned (.map (some w.heap.size)) ∧ w' = w.alloc (.map dmMap 7) := by
 have hmm := @run_makeMap Tryz.prog
 have i1 := fun v => run_ins w #[] 0 1 v (by simp [Instr.findNow])
 have i2 := fun v1 v => run_ins w #[⟨.int .i64 1, v1, 0⟩] 1 2 v (by simp [Instr.findNow, Instr.sameNow])
 have i3 := fun v1 v2 v => run_ins w #[⟨.int .i64 1, v1, 0⟩, ⟨.int .i64 2, v2, 1⟩] 2 3 v (by simp [Instr.findNow, Instr.sameNow])
 have i4 := fun v1 v2 v3 v => run_ins w #[⟨.int .i64 1, v1, 0⟩, ⟨.int .i64 2, v2, 1⟩, ⟨.int .i64 3, v3, 2⟩] 3 4 v (by simp [Instr.findNow, Instr.sameNow])
 have i5 := fun v1 v2 v3 v4 v => run_ins w #[⟨.int .i64 1, v1, 0⟩, ⟨.int .i64 2, v2, 1⟩, ⟨.int .i64 3, v3, 2⟩, ⟨.int .i64 4, v4, 3⟩] 4 5 v (by simp [Instr.findNow, Instr.sameNow])
 have i6 := fun v1 v2 v3 v4 v5 v => run_ins w #[⟨.int .i64 1, v1, 0⟩, ⟨.int .i64 2, v2, 1⟩, ⟨.int .i64 3, v3, 2⟩, ⟨.int .i64 4, v4, 3⟩, ⟨.int .i64 5, v5, 4⟩] 5 6 v (by simp [Instr.findNow, Instr.sameNow])
 have i7 := fun v1 v2 v3 v4 v5 v6 v => run_ins w #[⟨.int .i64 1, v1, 0⟩, ⟨.int .i64 2, v2, 1⟩, ⟨.int .i64 3, v3, 2⟩, ⟨.int .i64 4, v4, 3⟩, ⟨.int .i64 5, v5, 4⟩, ⟨.int .i64 6, v6, 5⟩] 6 7 v (by simp [Instr.findNow, Instr.sameNow])
 go_enter Tryz.func160, Tryz.ntmps160
 go_wp2
 go_ret
 exact ⟨rfl, rfl⟩
def askOk (asked by_ own a n : Int) : Bool :=
 if asked = 1 then by_ == 1 else if asked = 2 then by_ == own else if asked = 3 then by_ == a else if asked = 4 then by_ == own - a
 else if asked = 5 then decide (0 ≤ n) && decide (n ≤ by_ - own) else if asked = 6 then decide (by_ ≤ own) else true
set_option maxHeartbeats 400000 in
theorem meets_any (asked by_ own n a : Int) (p q r : Nat) (w : World)
   (h1 : w.cell? ⟨p, 0, none⟩ = some (.int .i64 own)) (h2 : w.cell? ⟨q, 0, none⟩ = some (.int .i64 a)) (h3 : w.cell? ⟨r, 0, none⟩ = some (.int .i64 n))
   (b1 : 0 ≤ own ∧ own ≤ 8) (b2 : 0 ≤ a ∧ a ≤ 8) (b3 : 0 ≤ by_ ∧ by_ ≤ 8) :
   Calls Tryz.prog 184 #[.int .i64 asked, .int .i64 by_, .pointer (some ⟨p, 0, none⟩), .pointer (some ⟨q, 0, none⟩), .pointer (some ⟨r, 0, none⟩)] w fun e w' => e = .returned (.bool (askOk asked by_ own a n)) ∧ w' = w := by
 go_enter Tryz.func184, Tryz.ntmps184
 go_wp2
 all_goals
   go_ret
   refine ⟨ret_bool ?_, rfl⟩
   simp only [beq_iff_eq, beq_eq_false_iff_ne, ne_eq] at *
   unfold askOk
   clear h1 h2 h3
   simp [*]
   try omega
end Go.Proofs.YtjhkecnnhddhbaaGreatDoor.Ev

namespace Go.Proofs.YtjhkecnnhddhbaaGreatDoor.Ev
open Go.RowKit
set_option maxRecDepth 100000
def two (w : Int) : Int := 2 ^ w.toNat
theorem two0 : two 0 = 1 := rfl
theorem two1 : two 1 = 2 := rfl
theorem two2 : two 2 = 4 := rfl
theorem two3 : two 3 = 8 := rfl
theorem two4 : two 4 = 16 := rfl
theorem two5 : two 5 = 32 := rfl
theorem two6 : two 6 = 64 := rfl
theorem two7 : two 7 = 128 := rfl
theorem two8 : two 8 = 256 := rfl
theorem nine {w : Int} (h : 0 ≤ w ∧ w ≤ 8) : w = 0 ∨ w = 1 ∨ w = 2 ∨ w = 3 ∨ w = 4 ∨ w = 5 ∨ w = 6 ∨ w = 7 ∨ w = 8 := by omega
theorem eight_lo {w : Int} (h : 0 ≤ w ∧ w ≤ 7) : w = 0 ∨ w = 1 ∨ w = 2 ∨ w = 3 ∨ w = 4 ∨ w = 5 ∨ w = 6 ∨ w = 7 := by omega
theorem ofInt64_toNat (x : Int) : ((BitVec.ofInt 64 x).toNat : Int) = x % 18446744073709551616 := by
 rw [BitVec.toNat_ofInt]
 have : (0 : Int) ≤ x % 18446744073709551616 := Int.emod_nonneg _ (by decide)
 show ((x % (2 ^ 64 : Nat)).toNat : Int) = _
 rw [show ((2 ^ 64 : Nat) : Int) = 18446744073709551616 from rfl]
 omega
theorem wrap_small (n : Nat) (h : n < 256) : IntKind.i64.wrap (n : Int) = n := by
 rw [IntKind.wrap_i64]
 omega
theorem mask_nat (x : Int) (i : Nat) (hi : i ≤ 8) : (((BitVec.ofInt 64 x).toNat % 2 ^ i : Nat) : Int) = x % 2 ^ i := by
 rw [Int.natCast_emod, ofInt64_toNat]
 have h : ((2 ^ i : Nat) : Int) = 2 ^ i := by simp
 rw [h]
 apply Int.emod_emod_of_dvd
 exact ⟨2 ^ (64 - i), by rw [← Int.pow_add]; rw [show i + (64 - i) = 64 from by omega]; rfl⟩
theorem bits_mask (x : Int) (i : Nat) (hi : i ≤ 8) (m : Int) (hm : m = (2 ^ i - 1 : Nat)) : bits .and .i64 x m = x % 2 ^ i := by
 subst hm
 show IntKind.i64.wrap ((BitVec.ofInt 64 x &&& BitVec.ofInt 64 ((2 ^ i - 1 : Nat) : Int)).toNat : Int) = _
 have h2 : 2 ^ i ≤ 2 ^ 8 := Nat.pow_le_pow_right (by omega) hi
 have h0 : 0 < 2 ^ i := Nat.two_pow_pos i
 rw [BitVec.toNat_and, BitVec.ofInt_natCast, BitVec.toNat_ofNat, Nat.mod_eq_of_lt (a := 2 ^ i - 1) (by omega), Nat.and_two_pow_sub_one_eq_mod]
 have hlt : (BitVec.ofInt 64 x).toNat % 2 ^ i < 2 ^ i := Nat.mod_lt _ h0
 rw [wrap_small _ (by omega), mask_nat x i hi]
def isW (x v : Int) : Bool := decide (0 ≤ x ∧ x < two v)
theorem isW_iff {x v : Int} : isW x v = true ↔ 0 ≤ x ∧ x < two v := by simp [isW]
set_option maxHeartbeats 400000 in
theorem isWord_any (x v : Int) (hv : 0 ≤ v ∧ v ≤ 8) (w : World) :
   Calls Tryz.prog 133 #[.int .i64 x, .int .i64 v] w fun e w' => e = .returned (.bool (isW x v)) ∧ w' = w := by
 rcases nine hv with rfl | rfl | rfl | rfl | rfl | rfl | rfl | rfl | rfl
 all_goals
   go_enter Tryz.func133, Tryz.ntmps133
   go_wp2
   all_goals
     go_ret
     exact ⟨ret_bool (by rw [Bool.eq_iff_iff, isW_iff]; simp [two0, two1, two2, two3, two4, two5, two6, two7, two8]; try omega), rfl⟩
set_option maxHeartbeats 400000 in
theorem within_any (x v : Int) (hv : 0 ≤ v ∧ v ≤ 8) (w : World) :
   Calls Tryz.prog 208 #[.int .i64 x, .int .i64 v] w fun e w' => e = .returned (.int .i64 (x % two v)) ∧ w' = w := by
 have m0 := bits_mask x 0 (by omega) 0 rfl
 have m1 := bits_mask x 1 (by omega) 1 rfl
 have m2 := bits_mask x 2 (by omega) 3 rfl
 have m3 := bits_mask x 3 (by omega) 7 rfl
 have m4 := bits_mask x 4 (by omega) 15 rfl
 have m5 := bits_mask x 5 (by omega) 31 rfl
 have m6 := bits_mask x 6 (by omega) 63 rfl
 have m7 := bits_mask x 7 (by omega) 127 rfl
 have m8 := bits_mask x 8 (by omega) 255 rfl
 rcases nine hv with rfl | rfl | rfl | rfl | rfl | rfl | rfl | rfl | rfl
 all_goals
   go_enter Tryz.func208, Tryz.ntmps208
   go_wp2
   go_ret
   exact ⟨ret_int (by first | rfl | simp [two]), rfl⟩
def sgn (a v : Int) : Int := if a < two (v - 1) then a else a - two v
theorem two_bd {v : Int} (hv : 0 ≤ v ∧ v ≤ 8) : 1 ≤ two v ∧ two v ≤ 256 := by
 rcases nine hv with rfl | rfl | rfl | rfl | rfl | rfl | rfl | rfl | rfl <;> simp [two]
set_option maxHeartbeats 400000 in
theorem signed_any (a v : Int) (hv : 1 ≤ v ∧ v ≤ 8) (h0 : 0 ≤ a) (h1 : a < two v) (w : World) :
   Calls Tryz.prog 238 #[.int .i64 a, .int .i64 v] w fun e w' => e = .returned (.int .i64 (sgn a v)) ∧ w' = w := by
 have hb := (two_bd (v := v) (by omega)).2
 have h2 : a < 256 := by omega
 have H1 : Hid _ := h1
 clear h1 hb
 rcases nine (w := v) (by omega) with rfl | rfl | rfl | rfl | rfl | rfl | rfl | rfl | rfl
 · omega
 all_goals
   go_enter Tryz.func238, Tryz.ntmps238
   go_wp2
   go_ret
   refine ⟨ret_int ?_, rfl⟩
   have h1 := H1.out
   unfold sgn
   split <;> rename_i hc <;> simp [two] at hc h1 ⊢ <;> omega
set_option maxHeartbeats 400000 in
theorem shift_far (k v a b : Int) (h : v ≤ b) (w : World) :
   Calls Tryz.prog 239 #[.int .i64 k, .int .i64 v, .int .i64 a, .int .i64 b] w fun e w' => e = .returned (.int .i64 0) ∧ w' = w := by
 go_enter Tryz.func239, Tryz.ntmps239
 go_wp2
 go_ret
 exact ⟨rfl, rfl⟩
set_option maxHeartbeats 400000 in
theorem shift_up (v a b : Int) (h : b < v) (hv : v ≤ 8) (hb : 0 ≤ b) (ha : 0 ≤ a) (ha2 : a < 256) (w : World) :
   Calls Tryz.prog 239 #[.int .i64 14, .int .i64 v, .int .i64 a, .int .i64 b] w fun e w' => e = .returned (.int .i64 (a * two b)) ∧ w' = w := by
 rcases eight_lo (w := b) (by omega) with rfl | rfl | rfl | rfl | rfl | rfl | rfl | rfl
 all_goals
   go_enter Tryz.func239, Tryz.ntmps239
   go_wp2
   go_ret
   exact ⟨ret_int (by simp [two]), rfl⟩
set_option maxHeartbeats 400000 in
theorem shift_down (v a b : Int) (h : b < v) (hv : v ≤ 8) (hb : 0 ≤ b) (w : World) :
   Calls Tryz.prog 239 #[.int .i64 15, .int .i64 v, .int .i64 a, .int .i64 b] w fun e w' => e = .returned (.int .i64 (a / two b)) ∧ w' = w := by
 rcases eight_lo (w := b) (by omega) with rfl | rfl | rfl | rfl | rfl | rfl | rfl | rfl
 all_goals
   go_enter Tryz.func239, Tryz.ntmps239
   go_wp2
   go_ret
   exact ⟨ret_int (by simp [two]), rfl⟩
end Go.Proofs.YtjhkecnnhddhbaaGreatDoor.Ev

namespace Go.Proofs.YtjhkecnnhddhbaaGreatDoor.Ev
open Go.RowKit
set_option maxRecDepth 100000
theorem toNat64 (a : Nat) (ha : a < 256) : (BitVec.ofInt 64 (a : Int)).toNat = a := by
 rw [BitVec.ofInt_natCast, BitVec.toNat_ofNat]; exact Nat.mod_eq_of_lt (by omega)
theorem i64_and (a b : Int) (h1 : 0 ≤ a) (h2 : a < 256) (h3 : 0 ≤ b) (h4 : b < 256) : bits .and .i64 a b = ((a.toNat &&& b.toNat : Nat) : Int) := by
 obtain ⟨A, rfl⟩ := Int.eq_ofNat_of_zero_le h1
 obtain ⟨B, rfl⟩ := Int.eq_ofNat_of_zero_le h3
 have hx : A &&& B < 2 ^ 8 := Nat.and_lt_two_pow _ (by omega)
 show IntKind.i64.wrap ((BitVec.ofInt 64 (A : Int) &&& BitVec.ofInt 64 (B : Int)).toNat : Int) = _
 rw [BitVec.toNat_and, toNat64 A (by omega), toNat64 B (by omega), wrap_small _ (by omega)]
 simp
theorem i64_or (a b : Int) (h1 : 0 ≤ a) (h2 : a < 256) (h3 : 0 ≤ b) (h4 : b < 256) : bits .or .i64 a b = ((a.toNat ||| b.toNat : Nat) : Int) := by
 obtain ⟨A, rfl⟩ := Int.eq_ofNat_of_zero_le h1
 obtain ⟨B, rfl⟩ := Int.eq_ofNat_of_zero_le h3
 have hx : A ||| B < 2 ^ 8 := Nat.or_lt_two_pow (by omega) (by omega)
 show IntKind.i64.wrap ((BitVec.ofInt 64 (A : Int) ||| BitVec.ofInt 64 (B : Int)).toNat : Int) = _
 rw [BitVec.toNat_or, toNat64 A (by omega), toNat64 B (by omega), wrap_small _ (by omega)]
 simp
theorem i64_xor (a b : Int) (h1 : 0 ≤ a) (h2 : a < 256) (h3 : 0 ≤ b) (h4 : b < 256) : bits .xor .i64 a b = ((a.toNat ^^^ b.toNat : Nat) : Int) := by
 obtain ⟨A, rfl⟩ := Int.eq_ofNat_of_zero_le h1
 obtain ⟨B, rfl⟩ := Int.eq_ofNat_of_zero_le h3
 have hx : A ^^^ B < 2 ^ 8 := Nat.xor_lt_two_pow (by omega) (by omega)
 show IntKind.i64.wrap ((BitVec.ofInt 64 (A : Int) ^^^ BitVec.ofInt 64 (B : Int)).toNat : Int) = _
 rw [BitVec.toNat_xor, toNat64 A (by omega), toNat64 B (by omega), wrap_small _ (by omega)]
 simp
theorem i64_not (a : Int) (h1 : 0 ≤ a) (h2 : a < 256) : bits .xor .i64 (-1) a = - a - 1 := by
 obtain ⟨A, rfl⟩ := Int.eq_ofNat_of_zero_le h1
 show IntKind.i64.wrap ((BitVec.ofInt 64 (-1) ^^^ BitVec.ofInt 64 (A : Int)).toNat : Int) = _
 rw [show BitVec.ofInt 64 (-1) = BitVec.allOnes 64 from by decide, BitVec.allOnes_xor, BitVec.toNat_not, toNat64 A (by omega), IntKind.wrap_i64]
 omega
theorem calc_4 (v a b : Int) (ha : 0 ≤ a) (ha2 : a < 256) (w : World) :
   Calls Tryz.prog 210 #[.int .i64 4, .int .i64 v, .int .i64 a, .int .i64 b] w fun e w' => e = .returned (.int .i64 (- a - 1)) ∧ w' = w := by
 have hn := i64_not a ha ha2
 go_enter Tryz.func210, Tryz.ntmps210
 go_wp2
 go_ret
 exact ⟨ret_int (by simp [*]), rfl⟩
theorem calc_5 (v a b : Int) (ha : 0 ≤ a) (ha2 : a < 256) (w : World) :
   Calls Tryz.prog 210 #[.int .i64 5, .int .i64 v, .int .i64 a, .int .i64 b] w fun e w' => e = .returned (.int .i64 (- a)) ∧ w' = w := by
 go_enter Tryz.func210, Tryz.ntmps210
 go_wp2
 go_ret
 exact ⟨ret_int (by first | rfl | exact rfl | omega), rfl⟩
theorem calc_6 (v a b : Int) (ha : 0 ≤ a) (ha2 : a < 256) (hb : 0 ≤ b) (hb2 : b < 256) (w : World) :
   Calls Tryz.prog 210 #[.int .i64 6, .int .i64 v, .int .i64 a, .int .i64 b] w fun e w' => e = .returned (.int .i64 ((a.toNat &&& b.toNat : Nat))) ∧ w' = w := by
 go_enter Tryz.func210, Tryz.ntmps210
 go_wp2
 go_ret
 exact ⟨ret_int (by first | rfl | exact i64_and a b ha ha2 hb hb2 | omega), rfl⟩
theorem calc_7 (v a b : Int) (ha : 0 ≤ a) (ha2 : a < 256) (hb : 0 ≤ b) (hb2 : b < 256) (w : World) :
   Calls Tryz.prog 210 #[.int .i64 7, .int .i64 v, .int .i64 a, .int .i64 b] w fun e w' => e = .returned (.int .i64 ((a.toNat ||| b.toNat : Nat))) ∧ w' = w := by
 go_enter Tryz.func210, Tryz.ntmps210
 go_wp2
 go_ret
 exact ⟨ret_int (by first | rfl | exact i64_or a b ha ha2 hb hb2 | omega), rfl⟩
theorem calc_8 (v a b : Int) (ha : 0 ≤ a) (ha2 : a < 256) (hb : 0 ≤ b) (hb2 : b < 256) (w : World) :
   Calls Tryz.prog 210 #[.int .i64 8, .int .i64 v, .int .i64 a, .int .i64 b] w fun e w' => e = .returned (.int .i64 ((a.toNat ^^^ b.toNat : Nat))) ∧ w' = w := by
 go_enter Tryz.func210, Tryz.ntmps210
 go_wp2
 go_ret
 exact ⟨ret_int (by first | rfl | exact i64_xor a b ha ha2 hb hb2 | omega), rfl⟩
theorem calc_9 (v a b : Int) (ha : 0 ≤ a) (ha2 : a < 256) (hb : 0 ≤ b) (hb2 : b < 256) (w : World) :
   Calls Tryz.prog 210 #[.int .i64 9, .int .i64 v, .int .i64 a, .int .i64 b] w fun e w' => e = .returned (.int .i64 (a + b)) ∧ w' = w := by
 go_enter Tryz.func210, Tryz.ntmps210
 go_wp2
 go_ret
 exact ⟨ret_int (by first | rfl | exact rfl | omega), rfl⟩
theorem calc_10 (v a b : Int) (ha : 0 ≤ a) (ha2 : a < 256) (hb : 0 ≤ b) (hb2 : b < 256) (w : World) :
   Calls Tryz.prog 210 #[.int .i64 10, .int .i64 v, .int .i64 a, .int .i64 b] w fun e w' => e = .returned (.int .i64 (a - b)) ∧ w' = w := by
 go_enter Tryz.func210, Tryz.ntmps210
 go_wp2
 go_ret
 exact ⟨ret_int (by first | rfl | exact rfl | omega), rfl⟩
theorem calc_11 (v a b : Int) (ha : 0 ≤ a) (ha2 : a < 256) (hb : 0 ≤ b) (hb2 : b < 256) (w : World) :
   Calls Tryz.prog 210 #[.int .i64 11, .int .i64 v, .int .i64 a, .int .i64 b] w fun e w' => e = .returned (.int .i64 (a * b)) ∧ w' = w := by
 have h1 : 0 ≤ a * b := Int.mul_nonneg ha hb
 have h2 : a * b ≤ 256 * 256 := Int.mul_le_mul (by omega) (by omega) hb (by omega)
 go_enter Tryz.func210, Tryz.ntmps210
 go_wp2
 go_ret
 exact ⟨rfl, rfl⟩
def divE (a b : Int) : Int := if b = 0 then -1 else a / b
def remE (a b : Int) : Int := if b = 0 then a else a % b
def shlE (v a b : Int) : Int := if v ≤ b then 0 else a * two b
def shrE (v a b : Int) : Int := if v ≤ b then 0 else a / two b
theorem calc_12 (v a b : Int) (ha : 0 ≤ a) (ha2 : a < 256) (hb : 0 ≤ b) (hb2 : b < 256) (w : World) :
   Calls Tryz.prog 210 #[.int .i64 12, .int .i64 v, .int .i64 a, .int .i64 b] w fun e w' => e = .returned (.int .i64 (divE a b)) ∧ w' = w := by
 unfold divE
 by_cases h : b = 0
 · rw [if_pos h]
   subst h
   go_enter Tryz.func210, Tryz.ntmps210
   go_wp2
   go_ret
   exact ⟨rfl, rfl⟩
 · rw [if_neg h]
   go_enter Tryz.func210, Tryz.ntmps210
   go_wp2
   all_goals go_ret
   exact ⟨rfl, rfl⟩
theorem calc_13 (v a b : Int) (ha : 0 ≤ a) (ha2 : a < 256) (hb : 0 ≤ b) (hb2 : b < 256) (w : World) :
   Calls Tryz.prog 210 #[.int .i64 13, .int .i64 v, .int .i64 a, .int .i64 b] w fun e w' => e = .returned (.int .i64 (remE a b)) ∧ w' = w := by
 unfold remE
 by_cases h : b = 0
 · rw [if_pos h]
   subst h
   go_enter Tryz.func210, Tryz.ntmps210
   go_wp2
   go_ret
   exact ⟨rfl, rfl⟩
 · rw [if_neg h]
   go_enter Tryz.func210, Tryz.ntmps210
   go_wp2
   all_goals go_ret
   exact ⟨rfl, rfl⟩
theorem calc_14 (v a b : Int) (hv : v ≤ 8) (ha : 0 ≤ a) (ha2 : a < 256) (hb : 0 ≤ b) (w : World) :
   Calls Tryz.prog 210 #[.int .i64 14, .int .i64 v, .int .i64 a, .int .i64 b] w fun e w' => e = .returned (.int .i64 (shlE v a b)) ∧ w' = w := by
 unfold shlE
 by_cases h : v ≤ b
 · rw [if_pos h]
   go_enter Tryz.func210, Tryz.ntmps210
   go_wp2_with (go_at_call 239; refine (shift_far _ _ _ _ h _).mono ?_; rintro e w' ⟨rfl, rfl⟩)
   go_ret
   exact ⟨rfl, rfl⟩
 · rw [if_neg h]
   go_enter Tryz.func210, Tryz.ntmps210
   go_wp2_with (go_at_call 239; refine (shift_up _ _ _ (by omega) hv hb ha ha2 _).mono ?_; rintro e w' ⟨rfl, rfl⟩)
   go_ret
   exact ⟨rfl, rfl⟩
theorem calc_15 (v a b : Int) (hv : v ≤ 8) (hb : 0 ≤ b) (w : World) :
   Calls Tryz.prog 210 #[.int .i64 15, .int .i64 v, .int .i64 a, .int .i64 b] w fun e w' => e = .returned (.int .i64 (shrE v a b)) ∧ w' = w := by
 unfold shrE
 by_cases h : v ≤ b
 · rw [if_pos h]
   go_enter Tryz.func210, Tryz.ntmps210
   go_wp2_with (go_at_call 239; refine (shift_far _ _ _ _ h _).mono ?_; rintro e w' ⟨rfl, rfl⟩)
   go_ret
   exact ⟨rfl, rfl⟩
 · rw [if_neg h]
   go_enter Tryz.func210, Tryz.ntmps210
   go_wp2_with (go_at_call 239; refine (shift_down _ _ _ (by omega) hv hb _).mono ?_; rintro e w' ⟨rfl, rfl⟩)
   go_ret
   exact ⟨rfl, rfl⟩
def yesOf (b : Bool) : Int := if b then 1 else 0
theorem cmp_16 (a b v : Int) (w : World) :
   Calls Tryz.prog 207 #[.int .i64 16, .int .i64 a, .int .i64 b, .int .i64 v] w fun e w' => e = .returned (.int .i64 (yesOf (a == b))) ∧ w' = w := by
 by_cases h : a = b
 · have hb : (a == b) = true := by simp [h]
   have hy : Hid (yesOf (a == b) = 1) := by rw [hb]; rfl
   clear h
   go_enter Tryz.func207, Tryz.ntmps207
   go_wp2
   go_ret
   exact ⟨ret_int hy.out.symm, rfl⟩
 · have hb : (a == b) = false := by simp [h]
   have hy : Hid (yesOf (a == b) = 0) := by rw [hb]; rfl
   clear h
   go_enter Tryz.func207, Tryz.ntmps207
   go_wp2
   go_ret
   exact ⟨ret_int hy.out.symm, rfl⟩
theorem cmp_17 (a b v : Int) (w : World) :
   Calls Tryz.prog 207 #[.int .i64 17, .int .i64 a, .int .i64 b, .int .i64 v] w fun e w' => e = .returned (.int .i64 (yesOf (decide (a < b)))) ∧ w' = w := by
 by_cases h : a < b
 · have hy : Hid (yesOf (decide (a < b)) = 1) := by simp [yesOf, h, Hid]
   go_enter Tryz.func207, Tryz.ntmps207
   go_wp2
   go_ret
   exact ⟨ret_int hy.out.symm, rfl⟩
 · have hy : Hid (yesOf (decide (a < b)) = 0) := by simp [yesOf, h, Hid]
   go_enter Tryz.func207, Tryz.ntmps207
   go_wp2
   go_ret
   exact ⟨ret_int hy.out.symm, rfl⟩
theorem cmp_18 (a b v : Int) (hv : 1 ≤ v ∧ v ≤ 8) (ha : 0 ≤ a) (ha2 : a < two v) (hb : 0 ≤ b) (hb2 : b < two v) (w : World) :
   Calls Tryz.prog 207 #[.int .i64 18, .int .i64 a, .int .i64 b, .int .i64 v] w fun e w' => e = .returned (.int .i64 (yesOf (decide (sgn a v < sgn b v)))) ∧ w' = w := by
 by_cases h : sgn a v < sgn b v
 · have hy : Hid (yesOf (decide (sgn a v < sgn b v)) = 1) := by simp [yesOf, h, Hid]
   go_enter Tryz.func207, Tryz.ntmps207
   go_wp2_with fail
   refine (signed_any a v hv ha ha2 _).mono ?_
   rintro e w' ⟨rfl, rfl⟩
   go_wp2_with fail
   refine (signed_any b v hv hb hb2 _).mono ?_
   rintro e w' ⟨rfl, rfl⟩
   go_wp2
   go_ret
   exact ⟨ret_int hy.out.symm, rfl⟩
 · have hy : Hid (yesOf (decide (sgn a v < sgn b v)) = 0) := by simp [yesOf, h, Hid]
   go_enter Tryz.func207, Tryz.ntmps207
   go_wp2_with fail
   refine (signed_any a v hv ha ha2 _).mono ?_
   rintro e w' ⟨rfl, rfl⟩
   go_wp2_with fail
   refine (signed_any b v hv hb hb2 _).mono ?_
   rintro e w' ⟨rfl, rfl⟩
   go_wp2
   go_ret
   exact ⟨ret_int hy.out.symm, rfl⟩
theorem wide_22 (v a f : Int) (w : World) :
   Calls Tryz.prog 209 #[.int .i64 22, .int .i64 v, .int .i64 a, .int .i64 f] w fun e w' => e = .returned (.int .i64 a) ∧ w' = w := by
 go_enter Tryz.func209, Tryz.ntmps209
 go_wp2
 go_ret
 exact ⟨rfl, rfl⟩
theorem wide_23 (v a f : Int) (hv : 0 ≤ v ∧ v ≤ 8) (hf : 1 ≤ f ∧ f ≤ 8) (ha : 0 ≤ a) (ha2 : a < two f) (w : World) :
   Calls Tryz.prog 209 #[.int .i64 23, .int .i64 v, .int .i64 a, .int .i64 f] w fun e w' => e = .returned (.int .i64 (sgn a f % two v)) ∧ w' = w := by
 go_enter Tryz.func209, Tryz.ntmps209
 go_wp2_with (first | (go_at_call 238; refine (signed_any a f hf ha ha2 _).mono ?_; rintro e w' ⟨rfl, rfl⟩) | (go_at_call 208; refine (within_any _ v hv _).mono ?_; rintro e w' ⟨rfl, rfl⟩))
 go_ret
 exact ⟨rfl, rfl⟩
end Go.Proofs.YtjhkecnnhddhbaaGreatDoor.Ev
