/- The small calls of package word, basics and latchworkref: what each returns; none of them changes what was there. -/
import Derived.Test.YtmambfdimeeijaaGreatDoorProg
import Derived.WalkKit
import Derived.WalkSpells
import Derived.WalkLawsBesides
import Derived.Deep.Light
import Derived.Deep.RegionWith
namespace Go.Proofs.YtmambfdimeeijaaGreatDoor.Ev
open Go.RowKit
set_option maxRecDepth 100000
theorem ret_int {k : IntKind} {a b : Int} (h : a = b) : Ending.returned (.int k a) = .returned (.int k b) := by rw [h]
theorem ret_bool {a b : Bool} (h : a = b) : Ending.returned (.bool a) = .returned (.bool b) := by rw [h]
def btw (n lo hi : Int) : Bool := decide (lo ≤ n) && decide (n ≤ hi)
theorem btw_true {n lo hi : Int} : btw n lo hi = true ↔ lo ≤ n ∧ n ≤ hi := by simp [btw]
theorem btw_false {n lo hi : Int} : btw n lo hi = false ↔ ¬ (lo ≤ n ∧ n ≤ hi) := by rw [← btw_true]; simp
set_option maxHeartbeats 400000 in
theorem isWidth_any (x : Int) (w : World) :
   Calls Tryz.prog 107 #[.int .i64 x] w fun e w' => e = .returned (.bool (btw x 1 8)) ∧ w' = w := by
 go_enter Tryz.func107, Tryz.ntmps107
 go_wp2
 all_goals
   go_ret
   exact ⟨ret_bool (by rw [Bool.eq_iff_iff, btw_true]; simp; try omega), rfl⟩
set_option maxHeartbeats 400000 in
theorem isOp_any (x : Int) (w : World) :
   Calls Tryz.prog 108 #[.int .i64 x] w fun e w' => e = .returned (.bool (btw x 4 23)) ∧ w' = w := by
 go_enter Tryz.func108, Tryz.ntmps108
 go_wp2
 all_goals
   go_ret
   exact ⟨ret_bool (by rw [Bool.eq_iff_iff, btw_true]; simp; try omega), rfl⟩
set_option maxHeartbeats 400000 in
theorem between_any (x lo hi : Int) (w : World) :
   Calls Tryz.prog 12 #[.int .i64 x, .int .i64 lo, .int .i64 hi] w fun e w' => e = .returned (.bool (btw x lo hi)) ∧ w' = w := by
 go_enter Tryz.func12, Tryz.ntmps12
 go_wp2
 all_goals
   go_ret
   exact ⟨ret_bool (by rw [Bool.eq_iff_iff, btw_true]; simp; try omega), rfl⟩
def takes (k : Int) : Int :=
 if k = 4 ∨ k = 5 ∨ k = 21 ∨ k = 22 ∨ k = 23 then 1 else if k = 19 then 3 else if 6 ≤ k ∧ k ≤ 20 then 2 else 0
set_option maxHeartbeats 400000 in
theorem words_any (x : Int) (w : World) :
   Calls Tryz.prog 135 #[.int .i64 x] w fun e w' => e = .returned (.int .i64 (takes x)) ∧ w' = w := by
 go_enter Tryz.func135, Tryz.ntmps135
 go_wp2
 all_goals
   go_ret
   refine ⟨ret_int ?_, rfl⟩
   simp only [beq_iff_eq, beq_eq_false_iff_ne, ne_eq] at *
   unfold takes
   (repeat' split) <;> omega
def shape (k : Int) : Int :=
 if ¬ (4 ≤ k ∧ k ≤ 23) then 0 else if k ≤ 5 then 1 else if k ≤ 15 then 2 else if k ≤ 18 then 3 else if k = 19 then 4 else if k = 20 then 5 else if k = 21 then 6 else 7
set_option maxHeartbeats 400000 in
theorem shapeOf_any (x : Int) (w : World) :
   Calls Tryz.prog 163 #[.int .i64 x] w fun e w' => e = .returned (.int .i64 (shape x)) ∧ w' = w := by
 go_enter Tryz.func163, Tryz.ntmps163
 go_wp2
 all_goals
   go_ret
   refine ⟨ret_int ?_, rfl⟩
   try simp only [beq_iff_eq, beq_eq_false_iff_ne, ne_eq, Bool.not_eq_true', Bool.not_eq_false', decide_eq_true_eq, decide_eq_false_iff_not] at *
   unfold shape
   (repeat' split) <;> omega
theorem push_set {α : Type} (a : Array α) (x y : α) : (a.push x).setIfInBounds a.size y = a.push y := by
 apply Array.ext'
 simp
theorem checkKey_int {P : Program} {t : TypeId} {q : IntKind} (h : P.underlying t = some (.int q)) (b : Bool) (n : Nat) (v : Value) (w : World) : (Instr.checkKey b (n + 1) t v).run P w = .ok () w := by
 simp [Instr.checkKey, run_underlying h]
theorem run_ins (w : World) (es : Array MapEntry) (c : Nat) (k : Int) (v : Value)
   (h : Instr.findNow (.int .i64) (.int .i64 k) es.toList 0 = some none) :
   (Instr.mapUpdate 183 (.map (some w.heap.size)) (.int .i64 k) v).run Tryz.prog (w.alloc (.map es c)) = .ok () (w.alloc (.map (es.push ⟨.int .i64 k, v, c⟩) (c+1))) := by
 have hb : (w.alloc (.map es c)).heap[w.heap.size]? = some (.map es c) := (MapKept.heap_alloc w _).1
 have hk := checkKey_int Tryz.underlying185 false 9999 (.int .i64 k) (w.alloc (.map es c))
 unfold Instr.mapUpdate
 simp only [Sem.run_bind, run_underlying Tryz.underlying183, MapKept.run_getObj_map hb, Result.andThen, hk]
 simp [Instr.findKey, run_underlying Tryz.underlying185, h,  MapKept.run_setObj_map _ hb]
 show World.mk ((w.heap.push _).setIfInBounds w.heap.size _) _ _ _ _ = World.mk (w.heap.push _) _ _ _ _
 rw [push_set]
 rfl
abbrev dm (o a b c : Int) : Value := .agg #[.int .i64 o, .int .i64 a, .int .i64 b, .int .i64 c]
abbrev dmE (n : Nat) (k : Int) (v : Value) : MapEntry := ⟨.int .i64 k, v, n⟩
def dmMap : Array MapEntry := #[dmE 0 1 (dm 0 2 0 0), dmE 1 2 (dm 0 2 2 0), dmE 2 3 (dm 1 0 3 0), dmE 3 4 (dm 0 1 2 2), dmE 4 5 (dm 0 0 4 0), dmE 5 6 (dm 0 5 0 0), dmE 6 7 (dm 0 6 0 0)]
set_option maxRecDepth 100000 in
set_option maxHeartbeats 400000 in
theorem demands_any (w : World) :
   Calls Tryz.prog 162 #[] w fun e w' => e = .returned (.map (some w.heap.size)) ∧ w' = w.alloc (.map dmMap 7) := by
 have hmm := @run_makeMap Tryz.prog
 have i1 := fun v => run_ins w #[] 0 1 v (by simp [Instr.findNow])
 have i2 := fun v1 v => run_ins w #[⟨.int .i64 1, v1, 0⟩] 1 2 v (by simp [Instr.findNow, Instr.sameNow])
 have i3 := fun v1 v2 v => run_ins w #[⟨.int .i64 1, v1, 0⟩, ⟨.int .i64 2, v2, 1⟩] 2 3 v (by simp [Instr.findNow, Instr.sameNow])
 have i4 := fun v1 v2 v3 v => run_ins w #[⟨.int .i64 1, v1, 0⟩, ⟨.int .i64 2, v2, 1⟩, ⟨.int .i64 3, v3, 2⟩] 3 4 v (by simp [Instr.findNow, Instr.sameNow])
 have i5 := fun v1 v2 v3 v4 v => run_ins w #[⟨.int .i64 1, v1, 0⟩, ⟨.int .i64 2, v2, 1⟩, ⟨.int .i64 3, v3, 2⟩, ⟨.int .i64 4, v4, 3⟩] 4 5 v (by simp [Instr.findNow, Instr.sameNow])
 have i6 := fun v1 v2 v3 v4 v5 v => run_ins w #[⟨.int .i64 1, v1, 0⟩, ⟨.int .i64 2, v2, 1⟩, ⟨.int .i64 3, v3, 2⟩, ⟨.int .i64 4, v4, 3⟩, ⟨.int .i64 5, v5, 4⟩] 5 6 v (by simp [Instr.findNow, Instr.sameNow])
 have i7 := fun v1 v2 v3 v4 v5 v6 v => run_ins w #[⟨.int .i64 1, v1, 0⟩, ⟨.int .i64 2, v2, 1⟩, ⟨.int .i64 3, v3, 2⟩, ⟨.int .i64 4, v4, 3⟩, ⟨.int .i64 5, v5, 4⟩, ⟨.int .i64 6, v6, 5⟩] 6 7 v (by simp [Instr.findNow, Instr.sameNow])
 go_enter Tryz.func162, Tryz.ntmps162
 go_wp2
 go_ret
 exact ⟨rfl, rfl⟩
def askOk (asked by_ own a n : Int) : Bool :=
 if asked = 1 then by_ == 1 else if asked = 2 then by_ == own else if asked = 3 then by_ == a else if asked = 4 then by_ == own - a
 else if asked = 5 then decide (0 ≤ n) && decide (n ≤ by_ - own) else if asked = 6 then decide (by_ ≤ own) else true
set_option maxHeartbeats 400000 in
theorem meets_any (asked by_ own n a : Int) (p q r : Nat) (w : World)
   (h1 : w.cell? ⟨p, 0, none⟩ = some (.int .i64 own)) (h2 : w.cell? ⟨q, 0, none⟩ = some (.int .i64 a)) (h3 : w.cell? ⟨r, 0, none⟩ = some (.int .i64 n))
   (b1 : 0 ≤ own ∧ own ≤ 8) (b2 : 0 ≤ a ∧ a ≤ 8) (b3 : 0 ≤ by_ ∧ by_ ≤ 8) :
   Calls Tryz.prog 179 #[.int .i64 asked, .int .i64 by_, .pointer (some ⟨p, 0, none⟩), .pointer (some ⟨q, 0, none⟩), .pointer (some ⟨r, 0, none⟩)] w fun e w' => e = .returned (.bool (askOk asked by_ own a n)) ∧ w' = w := by
 go_enter Tryz.func179, Tryz.ntmps179
 go_wp2
 all_goals
   go_ret
   refine ⟨ret_bool ?_, rfl⟩
   simp only [beq_iff_eq, beq_eq_false_iff_ne, ne_eq] at *
   unfold askOk
   clear h1 h2 h3
   simp [*]
   try omega
end Go.Proofs.YtmambfdimeeijaaGreatDoor.Ev

namespace Go.Proofs.YtmambfdimeeijaaGreatDoor.Ev
open Go.RowKit
set_option maxRecDepth 100000
def two (w : Int) : Int := 2 ^ w.toNat
theorem two0 : two 0 = 1 := rfl
theorem two1 : two 1 = 2 := rfl
theorem two2 : two 2 = 4 := rfl
theorem two3 : two 3 = 8 := rfl
theorem two4 : two 4 = 16 := rfl
theorem two5 : two 5 = 32 := rfl
theorem two6 : two 6 = 64 := rfl
theorem two7 : two 7 = 128 := rfl
theorem two8 : two 8 = 256 := rfl
theorem nine {w : Int} (h : 0 ≤ w ∧ w ≤ 8) : w = 0 ∨ w = 1 ∨ w = 2 ∨ w = 3 ∨ w = 4 ∨ w = 5 ∨ w = 6 ∨ w = 7 ∨ w = 8 := by omega
theorem ofInt64_toNat (x : Int) : ((BitVec.ofInt 64 x).toNat : Int) = x % 18446744073709551616 := by
 rw [BitVec.toNat_ofInt]
 have : (0 : Int) ≤ x % 18446744073709551616 := Int.emod_nonneg _ (by decide)
 show ((x % (2 ^ 64 : Nat)).toNat : Int) = _
 rw [show ((2 ^ 64 : Nat) : Int) = 18446744073709551616 from rfl]
 omega
theorem wrap_small (n : Nat) (h : n < 256) : IntKind.i64.wrap (n : Int) = n := by
 rw [IntKind.wrap_i64]
 omega
theorem mask_nat (x : Int) (i : Nat) (hi : i ≤ 8) : (((BitVec.ofInt 64 x).toNat % 2 ^ i : Nat) : Int) = x % 2 ^ i := by
 rw [Int.natCast_emod, ofInt64_toNat]
 have h : ((2 ^ i : Nat) : Int) = 2 ^ i := by simp
 rw [h]
 apply Int.emod_emod_of_dvd
 exact ⟨2 ^ (64 - i), by rw [← Int.pow_add]; rw [show i + (64 - i) = 64 from by omega]; rfl⟩
theorem bits_mask (x : Int) (i : Nat) (hi : i ≤ 8) (m : Int) (hm : m = (2 ^ i - 1 : Nat)) : bits .and .i64 x m = x % 2 ^ i := by
 subst hm
 show IntKind.i64.wrap ((BitVec.ofInt 64 x &&& BitVec.ofInt 64 ((2 ^ i - 1 : Nat) : Int)).toNat : Int) = _
 have h2 : 2 ^ i ≤ 2 ^ 8 := Nat.pow_le_pow_right (by omega) hi
 have h0 : 0 < 2 ^ i := Nat.two_pow_pos i
 rw [BitVec.toNat_and, BitVec.ofInt_natCast, BitVec.toNat_ofNat, Nat.mod_eq_of_lt (a := 2 ^ i - 1) (by omega), Nat.and_two_pow_sub_one_eq_mod]
 have hlt : (BitVec.ofInt 64 x).toNat % 2 ^ i < 2 ^ i := Nat.mod_lt _ h0
 rw [wrap_small _ (by omega), mask_nat x i hi]
def isW (x v : Int) : Bool := decide (0 ≤ x ∧ x < two v)
theorem isW_iff {x v : Int} : isW x v = true ↔ 0 ≤ x ∧ x < two v := by simp [isW]
set_option maxHeartbeats 400000 in
theorem isWord_any (x v : Int) (hv : 0 ≤ v ∧ v ≤ 8) (w : World) :
   Calls Tryz.prog 137 #[.int .i64 x, .int .i64 v] w fun e w' => e = .returned (.bool (isW x v)) ∧ w' = w := by
 rcases nine hv with rfl | rfl | rfl | rfl | rfl | rfl | rfl | rfl | rfl
 all_goals
   go_enter Tryz.func137, Tryz.ntmps137
   go_wp2
   all_goals
     go_ret
     exact ⟨ret_bool (by rw [Bool.eq_iff_iff, isW_iff]; simp [two0, two1, two2, two3, two4, two5, two6, two7, two8]; try omega), rfl⟩
set_option maxHeartbeats 400000 in
theorem within_any (x v : Int) (hv : 0 ≤ v ∧ v ≤ 8) (w : World) :
   Calls Tryz.prog 196 #[.int .i64 x, .int .i64 v] w fun e w' => e = .returned (.int .i64 (x % two v)) ∧ w' = w := by
 have m0 := bits_mask x 0 (by omega) 0 rfl
 have m1 := bits_mask x 1 (by omega) 1 rfl
 have m2 := bits_mask x 2 (by omega) 3 rfl
 have m3 := bits_mask x 3 (by omega) 7 rfl
 have m4 := bits_mask x 4 (by omega) 15 rfl
 have m5 := bits_mask x 5 (by omega) 31 rfl
 have m6 := bits_mask x 6 (by omega) 63 rfl
 have m7 := bits_mask x 7 (by omega) 127 rfl
 have m8 := bits_mask x 8 (by omega) 255 rfl
 rcases nine hv with rfl | rfl | rfl | rfl | rfl | rfl | rfl | rfl | rfl
 all_goals
   go_enter Tryz.func196, Tryz.ntmps196
   go_wp2
   go_ret
   exact ⟨ret_int (by first | rfl | simp [two]), rfl⟩
def sgn (a v : Int) : Int := if a < two (v - 1) then a else a - two v
theorem two_bd {v : Int} (hv : 0 ≤ v ∧ v ≤ 8) : 1 ≤ two v ∧ two v ≤ 256 := by
 rcases nine hv with rfl | rfl | rfl | rfl | rfl | rfl | rfl | rfl | rfl <;> simp [two]
end Go.Proofs.YtmambfdimeeijaaGreatDoor.Ev

namespace Go.Proofs.YtmambfdimeeijaaGreatDoor.Ev
open Go.RowKit
set_option maxRecDepth 100000
theorem toNat64 (a : Nat) (ha : a < 256) : (BitVec.ofInt 64 (a : Int)).toNat = a := by
 rw [BitVec.ofInt_natCast, BitVec.toNat_ofNat]; exact Nat.mod_eq_of_lt (by omega)
theorem i64_not (a : Int) (h1 : 0 ≤ a) (h2 : a < 256) : bits .xor .i64 (-1) a = - a - 1 := by
 obtain ⟨A, rfl⟩ := Int.eq_ofNat_of_zero_le h1
 show IntKind.i64.wrap ((BitVec.ofInt 64 (-1) ^^^ BitVec.ofInt 64 (A : Int)).toNat : Int) = _
 rw [show BitVec.ofInt 64 (-1) = BitVec.allOnes 64 from by decide, BitVec.allOnes_xor, BitVec.toNat_not, toNat64 A (by omega), IntKind.wrap_i64]
 omega
theorem calc_4 (v a b : Int) (ha : 0 ≤ a) (ha2 : a < 256) (w : World) :
   Calls Tryz.prog 198 #[.int .i64 4, .int .i64 v, .int .i64 a, .int .i64 b] w fun e w' => e = .returned (.int .i64 (- a - 1)) ∧ w' = w := by
 have hn := i64_not a ha ha2
 go_enter Tryz.func198, Tryz.ntmps198
 go_wp2
 go_ret
 exact ⟨ret_int (by simp [*]), rfl⟩
def yesOf (b : Bool) : Int := if b then 1 else 0
end Go.Proofs.YtmambfdimeeijaaGreatDoor.Ev

namespace Go.Proofs.YtmambfdimeeijaaGreatDoor.Ev
open Go.RowKit
set_option maxRecDepth 100000
abbrev arr3 (a b c : Int) : Value := .agg #[.int .i64 a, .int .i64 b, .int .i64 c]
def rngOk (t a b c : Int) : Bool :=
 (if 0 < t then btw a 1 8 else a == 0) && (if 1 < t then btw b 1 8 else b == 0) && (if 2 < t then btw c 1 8 else c == 0)
def metOk (o da db dc own n a b c : Int) : Bool :=
 askOk o own own a n && askOk da a own a n && askOk db b own a n && askOk dc c own a n
set_option maxHeartbeats 400000 in
theorem met_any (o da db dc own n a b c : Int) (w : World)
   (b1 : 0 ≤ own ∧ own ≤ 8) (b2 : 0 ≤ a ∧ a ≤ 8) (b3 : 0 ≤ b ∧ b ≤ 8) (b4 : 0 ≤ c ∧ c ≤ 8) :
   Calls Tryz.prog 165 #[dm o da db dc, .int .i64 own, .int .i64 n, arr3 a b c] w fun e w' => e = .returned (.bool (metOk o da db dc own n a b c)) ∧ w' = (((w.alloc (.cells #[.int .i64 o, .int .i64 da, .int .i64 db, .int .i64 dc] 181)).alloc (.cells #[.int .i64 own] 3)).alloc (.cells #[.int .i64 n] 3)).alloc (.cells #[.int .i64 a, .int .i64 b, .int .i64 c] 164) := by
 have hmf : ∀ (fn : Fn) (first cap : Array Value) (w : World), (Instr.makeFunc fn first cap).run Tryz.prog w = .ok (.func fn first cap) w := fun _ _ _ _ => rfl
 go_enter Tryz.func165, Tryz.ntmps165
 go_wp2_with (go_at_call 179; refine (meets_any _ _ own n a _ _ _ _ (by simp [go_sem]) (by simp [go_sem]) (by simp [go_sem]) (by omega) (by omega) (by omega)).mono ?_; rintro e w' ⟨rfl, rfl⟩)
 all_goals
   go_ret
   exact ⟨ret_bool (by unfold metOk; simp [*]), rfl⟩
set_option maxRecDepth 100000 in
set_option maxHeartbeats 1000000 in
theorem inRange_at (k a b c t : Int) (ht : takes k = t) (h4 : t = 0 ∨ t = 1 ∨ t = 2 ∨ t = 3) (w : World) :
   Calls Tryz.prog 164 #[.int .i64 k, arr3 a b c] w fun e w' => e = .returned (.bool (rngOk t a b c)) ∧ w' = w.alloc (.cells #[.int .i64 a, .int .i64 b, .int .i64 c] 164) := by
 have i0 : ∀ w : World, (Instr.index 164 (arr3 a b c) (.int .i64 0)).run Tryz.prog w = .ok (.int .i64 a) w := fun _ => by kernel_rfl
 have i1 : ∀ w : World, (Instr.index 164 (arr3 a b c) (.int .i64 1)).run Tryz.prog w = .ok (.int .i64 b) w := fun _ => by kernel_rfl
 have i2 : ∀ w : World, (Instr.index 164 (arr3 a b c) (.int .i64 2)).run Tryz.prog w = .ok (.int .i64 c) w := fun _ => by kernel_rfl
 rcases h4 with rfl | rfl | rfl | rfl
 all_goals
   have hw := words_any k
   rw [ht] at hw
   have hw' : Hid _ := hw
   clear hw ht
   go_enter Tryz.func164, Tryz.ntmps164
   go_wp2_with (go_at_call 135; refine (hw'.out _).mono ?_; rintro e w' ⟨rfl, rfl⟩)
   refine wp_loop_rounds 4 ?_
   rw [rounds_succ]
   go_wp2_with (go_at_call 107; refine (isWidth_any _ _).mono ?_; rintro e w' ⟨rfl, rfl⟩)
   all_goals try (rw [rounds_succ]; go_wp2_with (go_at_call 107; refine (isWidth_any _ _).mono ?_; rintro e w' ⟨rfl, rfl⟩))
   all_goals try (rw [rounds_succ]; go_wp2_with (go_at_call 107; refine (isWidth_any _ _).mono ?_; rintro e w' ⟨rfl, rfl⟩))
   all_goals try (rw [rounds_succ]; go_wp2_with (go_at_call 107; refine (isWidth_any _ _).mono ?_; rintro e w' ⟨rfl, rfl⟩))
   all_goals
     go_ret
     exact ⟨ret_bool (by unfold rngOk; simp_all), rfl⟩
theorem takes_four (k : Int) : takes k = 0 ∨ takes k = 1 ∨ takes k = 2 ∨ takes k = 3 := by
 unfold takes
 (repeat' split) <;> simp
theorem inRange_any (k a b c : Int) (w : World) :
   Calls Tryz.prog 164 #[.int .i64 k, arr3 a b c] w fun e w' => e = .returned (.bool (rngOk (takes k) a b c)) ∧ w' = w.alloc (.cells #[.int .i64 a, .int .i64 b, .int .i64 c] 164) :=
 inRange_at k a b c _ rfl (takes_four k) w
theorem bal {w w1 : World} (h : Below w.heap.size w w1) (o : Obj) : Below w.heap.size w (w1.alloc o) := h.alloc h.size o
end Go.Proofs.YtmambfdimeeijaaGreatDoor.Ev

namespace Go.Proofs.YtmambfdimeeijaaGreatDoor.Ev
open Go.RowKit
set_option maxRecDepth 100000
def metS (s own n a b c : Int) : Bool :=
 if s = 1 then metOk 0 2 0 0 own n a b c else if s = 2 then metOk 0 2 2 0 own n a b c else if s = 3 then metOk 1 0 3 0 own n a b c
 else if s = 4 then metOk 0 1 2 2 own n a b c else if s = 5 then metOk 0 0 4 0 own n a b c else if s = 6 then metOk 0 5 0 0 own n a b c else metOk 0 6 0 0 own n a b c
def fitE (k own n a b c : Int) : Int :=
 if shape k = 0 then 7 else if btw own 1 8 = false then 3 else if rngOk (takes k) a b c = false then 3
 else if k ≠ 21 ∧ n ≠ 0 then 1 else if metS (shape k) own n a b c then 0 else 1
theorem run_lk (w : World) (k : Int) (r : Option (Nat × Value)) (v : Value) (ok : Bool) 
   (h : Instr.findNow (.int .i64) (.int .i64 k) dmMap.toList 0 = some r) (h2 : (r.map (·.2)).getD (dm 0 0 0 0) = v) (h3 : r.isSome = ok) :
   (Instr.lookup 183 (.map (some w.heap.size)) (.int .i64 k) true).run Tryz.prog (w.alloc (.map dmMap 7)) = .ok (.tuple #[v, .bool ok]) (w.alloc (.map dmMap 7)) := by
 have hb : (w.alloc (.map dmMap 7)).heap[w.heap.size]? = some (.map dmMap 7) := (MapKept.heap_alloc w _).1
 have hk : (Instr.checkKey dmMap.isEmpty 10000 185 (.int .i64 k)).run Tryz.prog (w.alloc (.map dmMap 7)) = .ok () (w.alloc (.map dmMap 7)) := checkKey_int Tryz.underlying185 dmMap.isEmpty 9999 (.int .i64 k) (w.alloc (.map dmMap 7))
 have hz : (zeroValue 181).run Tryz.prog (w.alloc (.map dmMap 7)) = .ok (dm 0 0 0 0) (w.alloc (.map dmMap 7)) := by kernel_rfl
 unfold Instr.lookup
 simp only [Sem.run_bind, run_underlying Tryz.underlying183, MapKept.run_getObj_map hb, Result.andThen]
 subst h2 h3
 cases r with
 | none => simp [Instr.findKey, run_underlying Tryz.underlying185, h, hz, hk]
 | some p => simp [Instr.findKey, run_underlying Tryz.underlying185, h, hk]
theorem shape_eight (k : Int) : shape k = 0 ∨ shape k = 1 ∨ shape k = 2 ∨ shape k = 3 ∨ shape k = 4 ∨ shape k = 5 ∨ shape k = 6 ∨ shape k = 7 := by
 unfold shape
 (repeat' split) <;> simp
theorem fit_none (k own n a b c : Int) (w : World) (hs : shape k = 0) :
   Calls Tryz.prog 136 #[.int .i64 k, .int .i64 own, .int .i64 n, arr3 a b c] w fun e w' => e = .returned (.int .i64 (fitE k own n a b c)) ∧ Below w.heap.size w w' := by
 have hl := run_lk (w.alloc (.cells #[.int .i64 a, .int .i64 b, .int .i64 c] 164)) 0 none (dm 0 0 0 0) false (by rfl) rfl rfl
 rw [show (w.alloc (.cells #[.int .i64 a, .int .i64 b, .int .i64 c] 164)).heap.size = w.heap.size + 1 from by simp] at hl
 have hfin : fitE k own n a b c = 7 := by unfold fitE; rw [if_pos hs]
 have Hfin : Hid _ := hfin
 have hsh := shapeOf_any k
 rw [hs] at hsh
 have Hsh : Hid _ := hsh
 clear hfin hsh hs
 go_enter Tryz.func136, Tryz.ntmps136
 go_wp2_with (first | (go_at_call 162; refine (demands_any _).mono ?_; rintro e w' ⟨rfl, rfl⟩) | (go_at_call 163; refine (Hsh.out _).mono ?_; rintro e w' ⟨rfl, rfl⟩))
 go_ret
 exact ⟨ret_int Hfin.out.symm, bal (bal (bal (Below.refl _ _) _) _) _⟩
def fitR (k own n a b c : Int) (m : Bool) : Int :=
 if btw own 1 8 = false then 3 else if rngOk (takes k) a b c = false then 3
 else if k ≠ 21 ∧ n ≠ 0 then 1 else if m then 0 else 1
theorem btw_bd {x : Int} (h : btw x 1 8 = true) : 0 ≤ x ∧ x ≤ 8 := by rw [btw_true] at h; omega
theorem rng_bd {t a b c : Int} (h : rngOk t a b c = true) : (0 ≤ a ∧ a ≤ 8) ∧ (0 ≤ b ∧ b ≤ 8) ∧ (0 ≤ c ∧ c ≤ 8) := by
 unfold rngOk at h
 simp only [Bool.and_eq_true] at h
 obtain ⟨⟨h1, h2⟩, h3⟩ := h
 refine ⟨?_, ?_, ?_⟩
 · split at h1
   · exact btw_bd h1
   · simp at h1; omega
 · split at h2
   · exact btw_bd h2
   · simp at h2; omega
 · split at h3
   · exact btw_bd h3
   · simp at h3; omega
set_option maxRecDepth 100000 in
set_option maxHeartbeats 1000000 in
theorem fit_some (k own n a b c s o da db dc : Int) (i : Nat) (w : World) (hs : shape k = s) 
   (hf : Instr.findNow (.int .i64) (.int .i64 s) dmMap.toList 0 = some (some (i, dm o da db dc))) :
   Calls Tryz.prog 136 #[.int .i64 k, .int .i64 own, .int .i64 n, arr3 a b c] w fun e w' => e = .returned (.int .i64 (fitR k own n a b c (metOk o da db dc own n a b c))) ∧ Below w.heap.size w w' := by
 have hl := run_lk (w.alloc (.cells #[.int .i64 a, .int .i64 b, .int .i64 c] 164)) s (some (i, dm o da db dc)) (dm o da db dc) true hf rfl rfl
 rw [show (w.alloc (.cells #[.int .i64 a, .int .i64 b, .int .i64 c] 164)).heap.size = w.heap.size + 1 from by simp] at hl
 have hsh := shapeOf_any k
 rw [hs] at hsh
 have Hsh : Hid _ := hsh
 clear hsh hs hf
 by_cases hb : btw own 1 8 = true
 · have hbd := btw_bd hb
   by_cases hr : rngOk (takes k) a b c = true
   · obtain ⟨ba, bb, bc⟩ := rng_bd hr
     by_cases hk : (k != 21) = true
     · by_cases hn : (n != 0) = true
       · have Hfin : Hid (fitR k own n a b c (metOk o da db dc own n a b c) = 1) := by
           unfold fitR; simp only [bne_iff_ne] at hk hn; simp [hb, hr, hk, hn, Hid]
         go_enter Tryz.func136, Tryz.ntmps136
         go_wp2_with (first | (go_at_call 162; refine (demands_any _).mono ?_; rintro e w' ⟨rfl, rfl⟩) | (go_at_call 163; refine (Hsh.out _).mono ?_; rintro e w' ⟨rfl, rfl⟩) | (go_at_call 107; refine (isWidth_any _ _).mono ?_; rintro e w' ⟨rfl, rfl⟩) | (go_at_call 164; refine (inRange_any _ _ _ _ _).mono ?_; rintro e w' ⟨rfl, rfl⟩))
         go_ret
         exact ⟨ret_int Hfin.out.symm, bal (bal (bal (bal (Below.refl _ _) _) _) _) _⟩
       · have hn' : (n != 0) = false := by simpa using hn
         have Hfin : Hid (fitR k own n a b c (metOk o da db dc own n a b c) = if metOk o da db dc own n a b c then 0 else 1) := by
           unfold fitR; have : n = 0 := by simpa using hn'
           simp [hb, hr, this, Hid]
         clear hn
         generalize hm : metOk o da db dc own n a b c = m at *
         have hmet := fun w => met_any o da db dc own n a b c w hbd ba bb bc
         rw [hm] at hmet
         have Hmet : Hid _ := hmet
         clear hmet hm
         cases m
         all_goals
           go_enter Tryz.func136, Tryz.ntmps136
           go_wp2_with (first | (go_at_call 162; refine (demands_any _).mono ?_; rintro e w' ⟨rfl, rfl⟩) | (go_at_call 163; refine (Hsh.out _).mono ?_; rintro e w' ⟨rfl, rfl⟩) | (go_at_call 107; refine (isWidth_any _ _).mono ?_; rintro e w' ⟨rfl, rfl⟩) | (go_at_call 164; refine (inRange_any _ _ _ _ _).mono ?_; rintro e w' ⟨rfl, rfl⟩) | (go_at_call 165; refine (Hmet.out _).mono ?_; rintro e w' ⟨rfl, rfl⟩))
           go_ret
           exact ⟨ret_int (by rw [Hfin.out]; simp), by repeat (first | exact Below.refl _ _ | refine bal ?_ _)⟩
     · have hk' : (k != 21) = false := by simpa using hk
       have Hfin : Hid (fitR k own n a b c (metOk o da db dc own n a b c) = if metOk o da db dc own n a b c then 0 else 1) := by
         unfold fitR; have : k = 21 := by simpa using hk'
         subst this; simp [hb, hr, Hid]
       clear hk
       generalize hm : metOk o da db dc own n a b c = m at *
       have hmet := fun w => met_any o da db dc own n a b c w hbd ba bb bc
       rw [hm] at hmet
       have Hmet : Hid _ := hmet
       clear hmet hm
       cases m
       all_goals
         go_enter Tryz.func136, Tryz.ntmps136
         go_wp2_with (first | (go_at_call 162; refine (demands_any _).mono ?_; rintro e w' ⟨rfl, rfl⟩) | (go_at_call 163; refine (Hsh.out _).mono ?_; rintro e w' ⟨rfl, rfl⟩) | (go_at_call 107; refine (isWidth_any _ _).mono ?_; rintro e w' ⟨rfl, rfl⟩) | (go_at_call 164; refine (inRange_any _ _ _ _ _).mono ?_; rintro e w' ⟨rfl, rfl⟩) | (go_at_call 165; refine (Hmet.out _).mono ?_; rintro e w' ⟨rfl, rfl⟩))
         go_ret
         exact ⟨ret_int (by rw [Hfin.out]; simp), by repeat (first | exact Below.refl _ _ | refine bal ?_ _)⟩
   · have hr' : rngOk (takes k) a b c = false := by simpa using hr
     have Hfin : Hid (fitR k own n a b c (metOk o da db dc own n a b c) = 3) := by
       unfold fitR; simp [hb, hr', Hid]
     clear hr
     go_enter Tryz.func136, Tryz.ntmps136
     go_wp2_with (first | (go_at_call 162; refine (demands_any _).mono ?_; rintro e w' ⟨rfl, rfl⟩) | (go_at_call 163; refine (Hsh.out _).mono ?_; rintro e w' ⟨rfl, rfl⟩) | (go_at_call 107; refine (isWidth_any _ _).mono ?_; rintro e w' ⟨rfl, rfl⟩) | (go_at_call 164; refine (inRange_any _ _ _ _ _).mono ?_; rintro e w' ⟨rfl, rfl⟩))
     go_ret
     exact ⟨ret_int Hfin.out.symm, by repeat (first | exact Below.refl _ _ | refine bal ?_ _)⟩
 · have hb' : btw own 1 8 = false := by simpa using hb
   have Hfin : Hid (fitR k own n a b c (metOk o da db dc own n a b c) = 3) := by
     unfold fitR; simp [hb', Hid]
   clear hb
   go_enter Tryz.func136, Tryz.ntmps136
   go_wp2_with (first | (go_at_call 162; refine (demands_any _).mono ?_; rintro e w' ⟨rfl, rfl⟩) | (go_at_call 163; refine (Hsh.out _).mono ?_; rintro e w' ⟨rfl, rfl⟩) | (go_at_call 107; refine (isWidth_any _ _).mono ?_; rintro e w' ⟨rfl, rfl⟩) | (go_at_call 164; refine (inRange_any _ _ _ _ _).mono ?_; rintro e w' ⟨rfl, rfl⟩))
   go_ret
   exact ⟨ret_int Hfin.out.symm, by repeat (first | exact Below.refl _ _ | refine bal ?_ _)⟩
theorem fitE_some (k own n a b c : Int) (h : shape k ≠ 0) : fitE k own n a b c = fitR k own n a b c (metS (shape k) own n a b c) := by
 unfold fitE fitR
 rw [if_neg h]
theorem fit_any (k own n a b c : Int) (w : World) :
   Calls Tryz.prog 136 #[.int .i64 k, .int .i64 own, .int .i64 n, arr3 a b c] w fun e w' => e = .returned (.int .i64 (fitE k own n a b c)) ∧ Below w.heap.size w w' := by
 rcases shape_eight k with h | h | h | h | h | h | h | h
 · exact fit_none k own n a b c w h
 · rw [fitE_some k own n a b c (by omega), h]; exact fit_some k own n a b c 1 _ _ _ _ 0 w h rfl
 · rw [fitE_some k own n a b c (by omega), h]; exact fit_some k own n a b c 2 _ _ _ _ 1 w h rfl
 · rw [fitE_some k own n a b c (by omega), h]; exact fit_some k own n a b c 3 _ _ _ _ 2 w h rfl
 · rw [fitE_some k own n a b c (by omega), h]; exact fit_some k own n a b c 4 _ _ _ _ 3 w h rfl
 · rw [fitE_some k own n a b c (by omega), h]; exact fit_some k own n a b c 5 _ _ _ _ 4 w h rfl
 · rw [fitE_some k own n a b c (by omega), h]; exact fit_some k own n a b c 6 _ _ _ _ 5 w h rfl
 · rw [fitE_some k own n a b c (by omega), h]; exact fit_some k own n a b c 7 _ _ _ _ 6 w h rfl
end Go.Proofs.YtmambfdimeeijaaGreatDoor.Ev

namespace Go.Proofs.YtmambfdimeeijaaGreatDoor.Ev
open Go.RowKit
set_option maxRecDepth 100000
def okOf (k own n a b c : Int) : Bool :=
 if k = 4 ∨ k = 5 then a == own else if 6 ≤ k ∧ k ≤ 15 then a == own && b == own else if 16 ≤ k ∧ k ≤ 18 then a == b && own == 1
 else if k = 19 then a == 1 && b == own && c == own else if k = 20 then a + b == own
 else if k = 21 then decide (0 ≤ n) && decide (n ≤ 8) && decide (n + own ≤ a) else decide (a ≤ own)
def refE (k own n a b c : Int) : Int :=
 if takes k = 0 then 7 else if btw own 1 8 = false then 3 else if rngOk (takes k) a b c = false then 3
 else if okOf k own n a b c = false ∨ (k ≠ 21 ∧ n ≠ 0) then 1 else 0
end Go.Proofs.YtmambfdimeeijaaGreatDoor.Ev

namespace Go.Proofs.YtmambfdimeeijaaGreatDoor.Ev
theorem met1 (own n a b c : Int) : metOk 0 2 0 0 own n a b c = (a == own) := by simp [metOk, askOk]
theorem met2 (own n a b c : Int) : metOk 0 2 2 0 own n a b c = (a == own && b == own) := by simp [metOk, askOk]
theorem met3 (own n a b c : Int) : metOk 1 0 3 0 own n a b c = (own == 1 && b == a) := by simp [metOk, askOk]
theorem met4 (own n a b c : Int) : metOk 0 1 2 2 own n a b c = (a == 1 && b == own && c == own) := by simp [metOk, askOk]
theorem met5 (own n a b c : Int) : metOk 0 0 4 0 own n a b c = (b == own - a) := by simp [metOk, askOk]
theorem met6 (own n a b c : Int) : metOk 0 5 0 0 own n a b c = (decide (0 ≤ n) && decide (n ≤ a - own)) := by simp [metOk, askOk]
theorem met7 (own n a b c : Int) : metOk 0 6 0 0 own n a b c = decide (a ≤ own) := by simp [metOk, askOk]
theorem takes_shape (k : Int) : takes k = 0 ↔ shape k = 0 := by
 unfold takes shape
 (repeat' split) <;> omega
theorem shape_pos {k : Int} (hs : shape k ≠ 0) : 4 ≤ k ∧ k ≤ 23 := by
 apply Classical.byContradiction
 intro hn
 exact hs (by unfold shape; rw [if_pos hn])
theorem met_ok (k own n a b c : Int) (hs : shape k ≠ 0) (h : 1 ≤ own ∧ own ≤ 8) (ha : 0 ≤ a ∧ a ≤ 8) : metS (shape k) own n a b c = okOf k own n a b c := by
 have hk := shape_pos hs
 clear hs
 unfold metS okOf
 rw [met1, met2, met3, met4, met5, met6, met7]
 rw [Bool.eq_iff_iff]
 by_cases h5 : k ≤ 5
 · have e : shape k = 1 := by unfold shape; (repeat' split) <;> omega
   rw [e]
   simp [show k = 4 ∨ k = 5 from by omega]
 by_cases h15 : k ≤ 15
 · have e : shape k = 2 := by unfold shape; (repeat' split) <;> omega
   rw [e]
   simp [show ¬ (k = 4 ∨ k = 5) from by omega, show 6 ≤ k ∧ k ≤ 15 from by omega]
 by_cases h18 : k ≤ 18
 · have e : shape k = 3 := by unfold shape; (repeat' split) <;> omega
   rw [e]
   simp [show ¬ (k = 4 ∨ k = 5) from by omega, show ¬ (6 ≤ k ∧ k ≤ 15) from by omega, show 16 ≤ k ∧ k ≤ 18 from by omega]; omega
 by_cases h19 : k = 19
 · have e : shape k = 4 := by unfold shape; (repeat' split) <;> omega
   rw [e]
   simp [h19]
 by_cases h20 : k = 20
 · have e : shape k = 5 := by unfold shape; (repeat' split) <;> omega
   rw [e]
   simp [h20]; omega
 by_cases h21 : k = 21
 · have e : shape k = 6 := by unfold shape; (repeat' split) <;> omega
   rw [e]
   simp [h21]; omega
 · have e : shape k = 7 := by unfold shape; (repeat' split) <;> omega
   rw [e]
   simp [h19, h20, h21, show ¬ (k = 4 ∨ k = 5) from by omega, show ¬ (6 ≤ k ∧ k ≤ 15) from by omega, show ¬ (16 ≤ k ∧ k ≤ 18) from by omega]
theorem ref_fit (k own n a b c : Int) : refE k own n a b c = fitE k own n a b c := by
 unfold refE fitE
 by_cases hs : shape k = 0
 · rw [if_pos ((takes_shape k).2 hs), if_pos hs]
 rw [if_neg (fun h => hs ((takes_shape k).1 h)), if_neg hs]
 by_cases hb : btw own 1 8 = false
 · rw [if_pos hb, if_pos hb]
 rw [if_neg hb, if_neg hb]
 by_cases hr : rngOk (takes k) a b c = false
 · rw [if_pos hr, if_pos hr]
 rw [if_neg hr, if_neg hr]
 have hb' : btw own 1 8 = true := by simpa using hb
 have hr' : rngOk (takes k) a b c = true := by simpa using hr
 rw [met_ok k own n a b c hs (btw_true.1 hb') (rng_bd hr').1]
 cases okOf k own n a b c <;> by_cases hk : k ≠ 21 ∧ n ≠ 0 <;> simp [hk]
end Go.Proofs.YtmambfdimeeijaaGreatDoor.Ev

namespace Go.Proofs.YtmambfdimeeijaaGreatDoor.Ev
open Go.RowKit
set_option maxRecDepth 100000
def madeE (k v a b c n wa wb : Int) : Int :=
 if k = 4 then two v - 1 - a
 else if k = 5 then (two v - a) % two v
 else if k = 6 then ((a.toNat &&& b.toNat : Nat) : Int)
 else if k = 7 then ((a.toNat ||| b.toNat : Nat) : Int)
 else if k = 8 then ((a.toNat ^^^ b.toNat : Nat) : Int)
 else if k = 9 then (a + b) % two v
 else if k = 10 then (a + two v - b) % two v
 else if k = 11 then a * b % two v
 else if k = 12 then if b = 0 then two v - 1 else a / b
 else if k = 13 then if b = 0 then a else a % b
 else if k = 14 then if v ≤ b then 0 else a * two b % two v
 else if k = 15 then if v ≤ b then 0 else a / two b
 else if k = 16 then yesOf (a == b)
 else if k = 17 then yesOf (decide (a < b))
 else if k = 18 then yesOf (decide (sgn a wa < sgn b wb))
 else if k = 19 then if a = 1 then b else c
 else if k = 20 then a * two wb + b
 else if k = 21 then a / two n % two v
 else if k = 23 then (sgn a wa + two v) % two v
 else a
theorem fit_zero {k v n a b c : Int} (h : fitE k v n a b c = 0) :
   (1 ≤ v ∧ v ≤ 8) ∧ rngOk (takes k) a b c = true ∧ okOf k v n a b c = true ∧ (k = 21 ∨ n = 0) ∧ (4 ≤ k ∧ k ≤ 23) := by
 rw [← ref_fit] at h
 unfold refE at h
 by_cases h1 : takes k = 0
 · rw [if_pos h1] at h; omega
 rw [if_neg h1] at h
 by_cases h2 : btw v 1 8 = false
 · rw [if_pos h2] at h; omega
 rw [if_neg h2] at h
 by_cases h3 : rngOk (takes k) a b c = false
 · rw [if_pos h3] at h; omega
 rw [if_neg h3] at h
 by_cases h4 : okOf k v n a b c = false ∨ (k ≠ 21 ∧ n ≠ 0)
 · rw [if_pos h4] at h; omega
 refine ⟨btw_true.1 (by simpa using h2), by simpa using h3, ?_, ?_, shape_pos (fun e => h1 ((takes_shape k).2 e))⟩
 · apply Classical.byContradiction
   intro hn
   exact h4 (Or.inl (by simpa using hn))
 · apply Classical.byContradiction
   intro hn
   exact h4 (Or.inr (by omega))
theorem emod_small {x m : Int} (h0 : 0 ≤ x) (h1 : x < m) : x % m = x := Int.emod_eq_of_lt h0 h1
theorem m4 (v a b c n wa wb : Int) (h0 : 0 ≤ a) (h1 : a < two v) : (- a - 1) % two v = madeE 4 v a b c n wa wb := by
 show _ = two v - 1 - a
 have : - a - 1 = (two v - 1 - a) + two v * (-1) := by omega
 rw [this, Int.add_mul_emod_self_left, emod_small (by omega) (by omega)]
theorem m5 (v a b c n wa wb : Int) : (- a) % two v = madeE 5 v a b c n wa wb := by
 show _ = (two v - a) % two v
 have : two v - a = - a + two v * 1 := by omega
 rw [this, Int.add_mul_emod_self_left]
theorem two_nat (v : Int) : two v = ((2 ^ v.toNat : Nat) : Int) := by simp [two]
theorem m6 (v a b c n wa wb : Int) (g0 : 0 ≤ b) (g1 : b < two v) : ((a.toNat &&& b.toNat : Nat) : Int) % two v = madeE 6 v a b c n wa wb := by
 show _ = ((a.toNat &&& b.toNat : Nat) : Int)
 have : a.toNat &&& b.toNat < 2 ^ v.toNat := Nat.and_lt_two_pow _ (by rw [two_nat] at g1; omega)
 exact emod_small (by omega) (by rw [two_nat]; omega)
theorem m7 (v a b c n wa wb : Int) (h0 : 0 ≤ a) (h1 : a < two v) (g0 : 0 ≤ b) (g1 : b < two v) : ((a.toNat ||| b.toNat : Nat) : Int) % two v = madeE 7 v a b c n wa wb := by
 show _ = ((a.toNat ||| b.toNat : Nat) : Int)
 have : a.toNat ||| b.toNat < 2 ^ v.toNat := Nat.or_lt_two_pow (by rw [two_nat] at h1; omega) (by rw [two_nat] at g1; omega)
 exact emod_small (by omega) (by rw [two_nat]; omega)
theorem m8 (v a b c n wa wb : Int) (h0 : 0 ≤ a) (h1 : a < two v) (g0 : 0 ≤ b) (g1 : b < two v) : ((a.toNat ^^^ b.toNat : Nat) : Int) % two v = madeE 8 v a b c n wa wb := by
 show _ = ((a.toNat ^^^ b.toNat : Nat) : Int)
 have : a.toNat ^^^ b.toNat < 2 ^ v.toNat := Nat.xor_lt_two_pow (by rw [two_nat] at h1; omega) (by rw [two_nat] at g1; omega)
 exact emod_small (by omega) (by rw [two_nat]; omega)
theorem two_pos (v : Int) : 0 < two v := Int.pow_pos (by decide)
end Go.Proofs.YtmambfdimeeijaaGreatDoor.Ev

namespace Go.Proofs.YtmambfdimeeijaaGreatDoor.Ev
open Go.RowKit
set_option maxRecDepth 100000
theorem bcell {W w1 : World} (hb : Below W.heap.size W w1) (b o : Nat) (h : b < W.heap.size) : w1.cell? ⟨b, o, none⟩ = W.cell? ⟨b, o, none⟩ := hb.cell (p := ⟨b, o, none⟩) h
theorem box3 {w w1 : World} {a b c : Int} (hb : Below (w.alloc (.cells #[.int .i64 a, .int .i64 b, .int .i64 c] 164)).heap.size (w.alloc (.cells #[.int .i64 a, .int .i64 b, .int .i64 c] 164)) w1) :
   w1.cell? ⟨w.heap.size, 0, none⟩ = some (.int .i64 a) ∧ w1.cell? ⟨w.heap.size, 1, none⟩ = some (.int .i64 b) ∧ w1.cell? ⟨w.heap.size, 2, none⟩ = some (.int .i64 c) ∧ Below w.heap.size w w1 := by
 refine ⟨?_, ?_, ?_, ((Below.refl _ _).alloc (Nat.le_refl _) _).trans (hb.mono (by simp))⟩
 all_goals
   rw [bcell hb _ _ (by simp)]
   simp [go_sem]
theorem ret2 {a b d : Int} (h : a = b) : Ending.returned (.tuple #[.int .i64 a, .int .i64 d]) = .returned (.tuple #[.int .i64 b, .int .i64 d]) := by rw [h]
set_option maxRecDepth 100000 in
set_option maxHeartbeats 2000000 in
theorem apply_4 (v a b c n wa wb wc : Int) (hfit : fitE 4 v n wa wb wc = 0) (ha : isW a wa = true) (hb : isW b wb = true) (hc : isW c wc = true) (w : World) :
   Calls Tryz.prog 180 #[.int .i64 4, .int .i64 v, .int .i64 a, .int .i64 b, .int .i64 c, .int .i64 n, arr3 wa wb wc] w fun e w' => e = .returned (.tuple #[.int .i64 (madeE 4 v a b c n wa wb), .int .i64 0]) ∧ Below w.heap.size w w' := by
 obtain ⟨hv, hr, hok, hn, _⟩ := fit_zero hfit
 obtain ⟨ba, bb, bc⟩ := rng_bd hr
 have hr1 : 1 ≤ wa := by
   simp [rngOk, takes, btw] at hr
   omega
 have h0 := isW_iff.1 ha
 have h1 := isW_iff.1 hb
 have ta := (two_bd ba).2
 have tb := (two_bd bb).2
 have g0 : 0 ≤ a ∧ a < 256 := by omega
 have g1 : 0 ≤ b ∧ b < 256 := by omega
 simp only [okOf] at hok
 obtain rfl : wa = v := by simpa using hok
 have B1 : Hid _ := h0.2
 have B2 : Hid _ := h1.2
 have Hsh : Hid (∀ w, Calls Tryz.prog 163 #[.int .i64 4] w fun e w' => e = .returned (.int .i64 1) ∧ w' = w) := shapeOf_any 4
 have Hfit : Hid _ := hfit
 clear hfit hr hok hn h0 h1 ta tb
 have i0 : ∀ w : World, (Instr.index 164 (arr3 a b c) (.int .i64 0)).run Tryz.prog w = .ok (.int .i64 a) w := fun _ => by kernel_rfl
 have i1 : ∀ w : World, (Instr.index 164 (arr3 a b c) (.int .i64 1)).run Tryz.prog w = .ok (.int .i64 b) w := fun _ => by kernel_rfl
 have i2 : ∀ w : World, (Instr.index 164 (arr3 a b c) (.int .i64 2)).run Tryz.prog w = .ok (.int .i64 c) w := fun _ => by kernel_rfl
 go_enter Tryz.func180, Tryz.ntmps180
 go_wp2_with fail
 refine (fit_any _ _ _ _ _ _ _).mono ?_
 rintro e w1 ⟨rfl, hb1⟩
 rw [Hfit.out]
 obtain ⟨c0, c1, c2, hbw⟩ := box3 hb1
 clear hb1
 go_wp2_with (first | (go_at_call 137; refine (isWord_any _ _ (by omega) _).mono ?_; rintro e w' ⟨rfl, rfl⟩) | (go_at_call 163; refine (Hsh.out _).mono ?_; rintro e w' ⟨rfl, rfl⟩) | (go_at_call 198; refine (calc_4 _ _ _ (by omega) (by omega) _).mono ?_; rintro e w' ⟨rfl, rfl⟩) | (go_at_call 196; refine (within_any _ _ (by omega) _).mono ?_; rintro e w' ⟨rfl, rfl⟩))
 refine wp_loop_rounds 4 ?_
 rw [rounds_succ]
 go_wp2_with (first | (go_at_call 137; refine (isWord_any _ _ (by omega) _).mono ?_; rintro e w' ⟨rfl, rfl⟩) | (go_at_call 163; refine (Hsh.out _).mono ?_; rintro e w' ⟨rfl, rfl⟩) | (go_at_call 198; refine (calc_4 _ _ _ (by omega) (by omega) _).mono ?_; rintro e w' ⟨rfl, rfl⟩) | (go_at_call 196; refine (within_any _ _ (by omega) _).mono ?_; rintro e w' ⟨rfl, rfl⟩))
 rw [rounds_succ]
 go_wp2_with (first | (go_at_call 137; refine (isWord_any _ _ (by omega) _).mono ?_; rintro e w' ⟨rfl, rfl⟩) | (go_at_call 163; refine (Hsh.out _).mono ?_; rintro e w' ⟨rfl, rfl⟩) | (go_at_call 198; refine (calc_4 _ _ _ (by omega) (by omega) _).mono ?_; rintro e w' ⟨rfl, rfl⟩) | (go_at_call 196; refine (within_any _ _ (by omega) _).mono ?_; rintro e w' ⟨rfl, rfl⟩))
 rw [rounds_succ]
 go_wp2_with (first | (go_at_call 137; refine (isWord_any _ _ (by omega) _).mono ?_; rintro e w' ⟨rfl, rfl⟩) | (go_at_call 163; refine (Hsh.out _).mono ?_; rintro e w' ⟨rfl, rfl⟩) | (go_at_call 198; refine (calc_4 _ _ _ (by omega) (by omega) _).mono ?_; rintro e w' ⟨rfl, rfl⟩) | (go_at_call 196; refine (within_any _ _ (by omega) _).mono ?_; rintro e w' ⟨rfl, rfl⟩))
 rw [rounds_succ]
 go_wp2_with (first | (go_at_call 137; refine (isWord_any _ _ (by omega) _).mono ?_; rintro e w' ⟨rfl, rfl⟩) | (go_at_call 163; refine (Hsh.out _).mono ?_; rintro e w' ⟨rfl, rfl⟩) | (go_at_call 198; refine (calc_4 _ _ _ (by omega) (by omega) _).mono ?_; rintro e w' ⟨rfl, rfl⟩) | (go_at_call 196; refine (within_any _ _ (by omega) _).mono ?_; rintro e w' ⟨rfl, rfl⟩))
 go_ret2
 exact ⟨ret2 (m4 _ _ _ _ _ _ _ (by omega) B1.out), by repeat (first | exact hbw | refine bal ?_ _)⟩
theorem kinds20 {k : Int} (h : 4 ≤ k ∧ k ≤ 23) : k = 4 ∨ k = 5 ∨ k = 6 ∨ k = 7 ∨ k = 8 ∨ k = 9 ∨ k = 10 ∨ k = 11 ∨ k = 12 ∨ k = 13 ∨ k = 14 ∨ k = 15 ∨ k = 16 ∨ k = 17 ∨ k = 18 ∨ k = 19 ∨ k = 20 ∨ k = 21 ∨ k = 22 ∨ k = 23 := by omega
theorem apply_not (k v a b c n wa wb wc : Int) (hk : k ≤ 4) (hfit : fitE k v n wa wb wc = 0) (ha : isW a wa = true) (hb : isW b wb = true) (hc : isW c wc = true) (w : World) :
   Calls Tryz.prog 180 #[.int .i64 k, .int .i64 v, .int .i64 a, .int .i64 b, .int .i64 c, .int .i64 n, arr3 wa wb wc] w fun e w' => e = .returned (.tuple #[.int .i64 (madeE k v a b c n wa wb), .int .i64 0]) ∧ Below w.heap.size w w' := by
 obtain rfl : k = 4 := by have := (fit_zero hfit).2.2.2.2; omega
 exact apply_4 v a b c n wa wb wc hfit ha hb hc w
end Go.Proofs.YtmambfdimeeijaaGreatDoor.Ev

namespace Go.Proofs.YtmambfdimeeijaaGreatDoor.Ev
open Go.RowKit
set_option maxRecDepth 100000
theorem bthen {w w1 w2 : World} (h : Below w.heap.size w w1) (k : Below w1.heap.size w1 w2) : Below w.heap.size w w2 := h.trans (k.mono h.size)
end Go.Proofs.YtmambfdimeeijaaGreatDoor.Ev
