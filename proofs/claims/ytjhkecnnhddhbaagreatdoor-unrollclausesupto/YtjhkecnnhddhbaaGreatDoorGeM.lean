/- Gates: the small calls. -/
import Derived.Test.YtjhkecnnhddhbaaGreatDoorProg
import Derived.WalkKit
import Derived.WalkSpells
import Derived.WalkLawsBesides
import Derived.Deep.QuietTactic
import Derived.BigQuiet
import Derived.Deep.RegionHeld3
import Derived.WideKeyPair
import Derived.Maps.OwnOps
import Derived.Maps.OwnSet
namespace Go.Proofs.YtjhkecnnhddhbaaGreatDoor
open Go.RowKit
set_option maxRecDepth 100000
theorem ret_int {k : IntKind} {a b : Int} (h : a = b) : Ending.returned (.int k a) = .returned (.int k b) := by rw [h]
theorem ret_bool {a b : Bool} (h : a = b) : Ending.returned (.bool a) = .returned (.bool b) := by rw [h]
theorem hide {p : Prop} (h : p) : Hid p := h
def btw (n lo hi : Int) : Bool := decide (lo ≤ n) && decide (n ≤ hi)
theorem btw_true {n lo hi : Int} : btw n lo hi = true ↔ lo ≤ n ∧ n ≤ hi := by simp [btw]
theorem btw_false {n lo hi : Int} : btw n lo hi = false ↔ ¬ (lo ≤ n ∧ n ≤ hi) := by rw [← btw_true]; simp
theorem bal {w w1 : World} (h : Below w.heap.size w w1) (o : Obj) : Below w.heap.size w (w1.alloc o) := h.alloc h.size o
theorem bthen {w w1 w2 : World} (h : Below w.heap.size w w1) (k : Below w1.heap.size w1 w2) : Below w.heap.size w w2 := h.trans (k.mono h.size)
theorem past1 {w : World} {p : Addr} {v : Value} (h : w.cell? p = some v) (o : Obj) : (w.alloc o).cell? p = some v := cell_later (bal (Below.refl _ _) o) h
set_option maxHeartbeats 400000 in
theorem between_any (x lo hi : Int) (w : World) :
   Calls Tryz.prog 21 #[.int .i64 x, .int .i64 lo, .int .i64 hi] w fun e w' => e = .returned (.bool (btw x lo hi)) ∧ w' = w := by
 go_enter Tryz.func21, Tryz.ntmps21
 go_wp2
 all_goals
   go_ret
   exact ⟨ret_bool (by rw [Bool.eq_iff_iff, btw_true]; simp; try omega), rfl⟩
theorem literal_any (x : Int) (h : 0 ≤ x) (h2 : x ≤ 10000000) (w : World) :
   Calls Tryz.prog 67 #[.int .i64 x] w fun e w' => e = .returned (.int .i64 (2 * x)) ∧ w' = w := by
 go_enter Tryz.func67, Tryz.ntmps67
 go_wp2
 go_ret
 exact ⟨rfl, rfl⟩
theorem node_any (x : Int) (h : 0 ≤ x) (h2 : x ≤ 9223372036854775807) (w : World) :
   Calls Tryz.prog 17 #[.int .i64 x] w fun e w' => e = .returned (.int .i64 (x / 2)) ∧ w' = w := by
 go_enter Tryz.func17, Tryz.ntmps17
 go_wp2
 go_ret
 exact ⟨rfl, rfl⟩
def odd (x : Int) : Bool := x % 2 == 1
theorem isTurned_any (x : Int) (h : 0 ≤ x) (h2 : x ≤ 9223372036854775807) (w : World) :
   Calls Tryz.prog 70 #[.int .i64 x] w fun e w' => e = .returned (.bool (odd x)) ∧ w' = w := by
 have HE : Hid (odd x = (x % 2 == 1)) := rfl
 go_enter Tryz.func70, Tryz.ntmps70
 go_wp2
 go_ret
 exact ⟨ret_bool HE.out.symm, rfl⟩
def turn (x : Int) : Int := if odd x then x - 1 else x + 1
theorem toNat64 (a : Nat) (ha : a < 9223372036854775808) : (BitVec.ofInt 64 (a : Int)).toNat = a := by
 rw [BitVec.ofInt_natCast, BitVec.toNat_ofNat]; exact Nat.mod_eq_of_lt (by omega)
theorem xor_one (A : Nat) : A ^^^ 1 = if A % 2 = 1 then A - 1 else A + 1 := by
 have h : A ^^^ 1 = 2 * (A / 2) + (1 - A % 2) := by
   apply Nat.eq_of_testBit_eq
   intro i
   rw [Nat.testBit_xor]
   cases i with
   | zero =>
     simp only [Nat.testBit_zero]
     rcases Nat.mod_two_eq_zero_or_one A with h | h <;> simp [h] <;> omega
   | succ i =>
     rw [Nat.testBit_succ, Nat.testBit_succ, Nat.testBit_succ]
     have e1 : 1 / 2 = 0 := rfl
     have e2 : (2 * (A / 2) + (1 - A % 2)) / 2 = A / 2 := by omega
     rw [e1, e2]
     simp
 rw [h]
 split <;> omega
theorem turn_bits (x : Int) (h : 0 ≤ x) (h2 : x ≤ 10000000) : bits .xor .i64 x 1 = turn x := by
 obtain ⟨A, rfl⟩ := Int.eq_ofNat_of_zero_le h
 show IntKind.i64.wrap ((BitVec.ofInt 64 (A : Int) ^^^ BitVec.ofInt 64 ((1 : Nat) : Int)).toNat : Int) = _
 rw [BitVec.toNat_xor, toNat64 A (by omega), toNat64 1 (by omega), xor_one, IntKind.wrap_i64]
 unfold turn odd
 by_cases hA : A % 2 = 1
 · have e : ((A : Int) % 2 == 1) = true := by simp; omega
   rw [if_pos hA, e, if_pos rfl]; omega
 · have e : ((A : Int) % 2 == 1) = false := by simp; omega
   rw [if_neg hA, e, if_neg (by decide)]; omega
theorem turn_any (x : Int) (h : 0 ≤ x) (h2 : x ≤ 10000000) (w : World) :
   Calls Tryz.prog 68 #[.int .i64 x] w fun e w' => e = .returned (.int .i64 (turn x)) ∧ w' = w := by
 have HE := hide (turn_bits x h h2)
 go_enter Tryz.func68, Tryz.ntmps68
 go_wp2
 go_ret
 exact ⟨ret_int HE.out, rfl⟩
abbrev gval (ins : Int) (p : Option Addr) (len cap : Nat) : Value := .agg #[.int .i64 ins, .slice p len cap]
theorem nodes_any (ins : Int) (p : Option Addr) (len cap : Nat) (h0 : 0 ≤ ins) (h1 : ins ≤ 1000) (h2 : len ≤ 1000001) (w : World) :
   Calls Tryz.prog 66 #[gval ins p len cap] w fun e w' => e = .returned (.int .i64 (1 + ins + len)) ∧ Below w.heap.size w w' := by
 go_enter Tryz.func66, Tryz.ntmps66
 go_wp2
 go_ret
 exact ⟨rfl, bal (Below.refl _ _) _⟩
def standB (a b n : Int) : Bool := decide (1 < a) && decide (a < b) && (a / 2 != b / 2) && decide (b / 2 < n)
abbrev arr2 (a b : Int) : Value := .agg #[.int .i64 a, .int .i64 b]
theorem bdn {B : Nat} {a w : World} (h : Below B a w) (n : Nat) : Below B a (w.drewN n) := ⟨h.os, h.tape, h.output, h.size, h.block⟩
set_option maxHeartbeats 1000000 in
theorem stands_any (a b n : Int) (hb : b ≤ 9223372036854775807) (w : World) :
   Calls Tryz.prog 104 #[arr2 a b, .int .i64 n] w fun e w' => e = .returned (.bool (standB a b n)) ∧ Below w.heap.size w w' := by
 have HE : Hid (standB a b n = (decide (1 < a) && decide (a < b) && (a / 2 != b / 2) && decide (b / 2 < n))) := rfl
 generalize standB a b n = R at *
 have hbl : Below w.heap.size w (w.alloc (.cells #[.int .i64 a, .int .i64 b] 75)) := bal (Below.refl _ _) _
 by_cases h1 : 1 < a
 · by_cases h2 : a < b
   · by_cases h3 : a / 2 = b / 2
     · have HX : Hid (R = false) := by rw [HE.out, h3]; simp [Hid]
       have h3' : (a / 2 != b / 2) = false := by simp [h3]
       go_enter Tryz.func104, Tryz.ntmps104
       go_wp2
       go_quiet (fail)
       go_wp2_with (go_at_call 17; refine (node_any _ (by omega) (by omega) _).mono ?_; rintro e w' ⟨rfl, rfl⟩)
       go_ret
       exact ⟨ret_bool HX.out.symm, bdn hbl _⟩
     · have HX : Hid (R = (a / 2 != b / 2 && decide (b / 2 < n))) := by rw [HE.out]; simp [h1, h2, Hid]
       go_enter Tryz.func104, Tryz.ntmps104
       go_wp2
       go_quiet (fail)
       go_wp2_with (go_at_call 17; refine (node_any _ (by omega) (by omega) _).mono ?_; rintro e w' ⟨rfl, rfl⟩)
       go_ret
       exact ⟨ret_bool HX.out.symm, bdn hbl _⟩
   · have HX : Hid (R = false) := by rw [HE.out]; simp [h2, Hid]
     go_enter Tryz.func104, Tryz.ntmps104
     go_wp2
     go_quiet (fail)
     go_wp2
     go_ret
     exact ⟨ret_bool HX.out.symm, bdn hbl _⟩
 · have HX : Hid (R = false) := by rw [HE.out]; simp [h1, Hid]
   go_enter Tryz.func104, Tryz.ntmps104
   go_wp2
   go_quiet (fail)
   go_wp2
   go_ret
   exact ⟨ret_bool HX.out.symm, bdn hbl _⟩
def IntsAt (w : World) (p : Option Addr) (l : List Int) : Prop :=
 0 < l.length → ∃ b off, p = some ⟨b, off, none⟩ ∧ ∀ (i : Nat) (h : i < l.length), w.cell? ⟨b, off + i, none⟩ = some (.int .i64 l[i])
theorem IntsAt.later {w w1 : World} {p : Option Addr} {l : List Int} (h : IntsAt w p l) (hb : Below w.heap.size w w1) : IntsAt w1 p l := by
 intro h0
 obtain ⟨b, off, hp, hc⟩ := h h0
 exact ⟨b, off, hp, fun i hi => cell_later hb (hc i hi)⟩
def BoolsAt (w : World) (p : Option Addr) (l : List Bool) : Prop :=
 0 < l.length → ∃ b off, p = some ⟨b, off, none⟩ ∧ ∀ (i : Nat) (h : i < l.length), w.cell? ⟨b, off + i, none⟩ = some (.bool l[i])
theorem BoolsAt.later {w w1 : World} {p : Option Addr} {l : List Bool} (h : BoolsAt w p l) (hb : Below w.heap.size w w1) : BoolsAt w1 p l := by
 intro h0
 obtain ⟨b, off, hp, hc⟩ := h h0
 exact ⟨b, off, hp, fun i hi => cell_later hb (hc i hi)⟩
def PairsAt (w : World) (p : Option Addr) (l : List (Int × Int)) : Prop :=
 0 < l.length → ∃ b off, p = some ⟨b, off, none⟩ ∧ ∀ (i : Nat) (h : i < l.length), w.cell? ⟨b, off + i * 2, none⟩ = some (.int .i64 l[i].1) ∧ w.cell? ⟨b, off + i * 2 + 1, none⟩ = some (.int .i64 l[i].2)
theorem PairsAt.later {w w1 : World} {p : Option Addr} {l : List (Int × Int)} (h : PairsAt w p l) (hb : Below w.heap.size w w1) : PairsAt w1 p l := by
 intro h0
 obtain ⟨b, off, hp, hc⟩ := h h0
 exact ⟨b, off, hp, fun i hi => ⟨cell_later hb (hc i hi).1, cell_later hb (hc i hi).2⟩⟩
end Go.Proofs.YtjhkecnnhddhbaaGreatDoor

namespace Go.Proofs.YtjhkecnnhddhbaaGreatDoor
open Go.RowKit
set_option maxRecDepth 100000
def findE (f : Int → Bool) (l : List Int) : Int := match l.findIdx? f with | some i => (i : Int) | none => -1
theorem findE_ge (f : Int → Bool) (l : List Int) : decide (0 ≤ findE f l) = l.any f := by
 unfold findE
 cases h : l.findIdx? f with
 | none =>
   rw [List.findIdx?_eq_none_iff] at h
   have : l.any f = false := by rw [List.any_eq_false]; intro x hx; simp [h x hx]
   rw [this]; rfl
 | some i =>
   have : l.any f = true := by
     rw [List.any_eq_true]
     rw [List.findIdx?_eq_some_iff_getElem] at h
     obtain ⟨h1, h2, _⟩ := h
     exact ⟨l[i], List.getElem_mem h1, h2⟩
   rw [this]
   simp
theorem findE_hit (f : Int → Bool) (l : List Int) (k : Nat) (hk : k < l.length) (h : ∀ i (hi : i < l.length), i < k → f l[i] = false) (hf : f l[k] = true) : findE f l = k := by
 have : l.findIdx? f = some k := by
   rw [List.findIdx?_eq_some_iff_getElem]
   exact ⟨hk, hf, fun j hj => by simp [h j (by omega) hj]⟩
 unfold findE
 rw [this]
theorem findE_miss (f : Int → Bool) (l : List Int) (h : ∀ i (hi : i < l.length), f l[i] = false) : findE f l = -1 := by
 have : l.findIdx? f = none := by
   rw [List.findIdx?_eq_none_iff]
   intro x hx
   obtain ⟨i, hi, rfl⟩ := List.getElem_of_mem hx
   exact h i hi
 unfold findE
 rw [this]
set_option maxRecDepth 100000 in
set_option maxHeartbeats 2000000 in
theorem indexFunc_any (fn : FuncId) (c : Value) (f : Int → Bool) (l : List Int) (p : Option Addr) (cap : Nat) (w : World) (hl : l.length ≤ maxLen) (hI : IntsAt w p l) (hent : ∀ (args : Array Value) (w : World), (callFunc fn args).run Tryz.prog w = .ok (.enter fn args) w)
   (hcl : ∀ wr, Below w.heap.size w wr → ∀ i (h : i < l.length), Calls Tryz.prog fn #[.int .i64 l[i], c] wr fun e w' => e = .returned (.bool (f l[i])) ∧ Below wr.heap.size wr w') :
   Calls Tryz.prog 50 #[.slice p l.length cap, .func (.func fn) #[] #[c]] w fun e w' => e = .returned (.int .i64 (findE f l)) ∧ Below w.heap.size w w' := by
 have HC : Hid _ := hcl
 unfold maxLen at hl
 clear hcl
 go_enter Tryz.func50, Tryz.ntmps50
 go_wp2
 go_loopw [8] (fun i wr => ∃ k : Nat, k ≤ l.length ∧ i = .int .i64 k ∧ Hid (∀ i (hi : i < l.length), i < k → f l[i] = false) ∧ Below w.heap.size w wr) (fun i _ => l.length - (intOf i).toNat)
 case atStart => exact ⟨0, Nat.zero_le _, rfl, fun i hi h => by omega, Below.refl _ _⟩
 case round =>
   obtain ⟨k, hk, rfl, hno, hbw⟩ := hrel
   by_cases hlt : k < l.length
   · obtain ⟨b, off, rfl, hc⟩ := (hI.later hbw) (by omega)
     have hck := hc k hlt
     have hcall := HC.out wr hbw k hlt
     have HH : Hid _ := findE_hit f l k hlt hno.out
     clear hc
     cases hf : f l[k]
     · have HN : Hid (∀ i (hi : i < l.length), i < k + 1 → f l[i] = false) := by
         intro i hi h
         rcases Nat.lt_succ_iff_lt_or_eq.1 h with h1 | rfl
         · exact hno.out i hi h1
         · exact hf
       rw [hf] at hcall
       have HCC : Hid (Unit → _) := fun _ => hcall
       clear hcall hf hno HH
       generalize l[k] = x at *
       go_wp2_with fail
       refine (HCC.out ()).mono ?_
       rintro e w' ⟨rfl, hb2⟩
       go_wp2
       go_roundw
       case rel => exact ⟨k + 1, by omega, by go_num, HN, bthen hbw hb2⟩
       case measure => simp [intOf]; omega
     · rw [hf] at hcall
       have HCC : Hid (Unit → _) := fun _ => hcall
       have HV : Hid (findE f l = k) := HH.out hf
       clear hcall hf hno HH
       generalize l[k] = x at *
       go_wp2_with fail
       refine (HCC.out ()).mono ?_
       rintro e w' ⟨rfl, hb2⟩
       go_wp2
       go_ret
       exact ⟨ret_int HV.out.symm, bthen hbw hb2⟩
   · have HV : Hid (findE f l = -1) := findE_miss f l (fun i hi => hno.out i hi (by omega))
     go_wp2
     go_ret
     exact ⟨ret_int HV.out.symm, hbw⟩
theorem containsFunc_any (fn : FuncId) (c : Value) (f : Int → Bool) (l : List Int) (p : Option Addr) (cap : Nat) (w : World) (hl : l.length ≤ maxLen) (hI : IntsAt w p l) (hent : ∀ (args : Array Value) (w : World), (callFunc fn args).run Tryz.prog w = .ok (.enter fn args) w)
   (hcl : ∀ wr, Below w.heap.size w wr → ∀ i (h : i < l.length), Calls Tryz.prog fn #[.int .i64 l[i], c] wr fun e w' => e = .returned (.bool (f l[i])) ∧ Below wr.heap.size wr w') :
   Calls Tryz.prog 18 #[.slice p l.length cap, .func (.func fn) #[] #[c]] w fun e w' => e = .returned (.bool (l.any f)) ∧ Below w.heap.size w w' := by
 have HC := fun _ : Unit => indexFunc_any fn c f l p cap w hl hI hent hcl
 have HG : Hid _ := findE_ge f l
 have HCC : Hid _ := HC
 clear HC hcl hent
 generalize findE f l = x at *
 go_enter Tryz.func18, Tryz.ntmps18
 go_wp2_with fail
 refine (HCC.out ()).mono ?_
 rintro e w' ⟨rfl, hb2⟩
 go_wp2
 go_ret
 exact ⟨ret_bool HG.out, hb2⟩
theorem enter30 (args : Array Value) (w : World) : (callFunc 85 args).run Tryz.prog w = .ok (.enter 85 args) w := by kernel_rfl
def noLit (e x : Int) : Bool := decide (x < 0) || decide (e ≤ x)
theorem has1_any (x e : Int) (B : Nat) (w : World) (hB : w.cell? ⟨B, 0, none⟩ = some (.int .i64 e)) :
   Calls Tryz.prog 85 #[.int .i64 x, .pointer (some ⟨B, 0, none⟩)] w fun r w' => r = .returned (.bool (noLit e x)) ∧ Below w.heap.size w w' := by
 have HE : Hid (noLit e x = (decide (x < 0) || decide (e ≤ x))) := rfl
 generalize noLit e x = R at *
 by_cases h : x < 0
 · have HX : Hid (R = true) := by rw [HE.out]; simp [h, Hid]
   go_enter Tryz.func85, Tryz.ntmps85
   go_wp2
   go_ret
   exact ⟨ret_bool HX.out.symm, Below.refl _ _⟩
 · have HX : Hid (R = decide (e ≤ x)) := by rw [HE.out]; simp [h, Hid]
   go_enter Tryz.func85, Tryz.ntmps85
   go_wp2
   go_ret
   exact ⟨ret_bool HX.out.symm, Below.refl _ _⟩
set_option maxHeartbeats 1000000 in
theorem has_any (ins : Int) (p : Option Addr) (len cap : Nat) (h0 : 0 ≤ ins) (h1 : ins ≤ 1000) (h2 : len ≤ 1000001) (l : List Int) (q : Option Addr) (qc : Nat) (hl : l.length ≤ maxLen) (w : World) (hI : IntsAt w q l) :
   Calls Tryz.prog 63 #[gval ins p len cap, .slice q l.length qc] w fun r w' => r = .returned (.bool (!l.any (noLit (2 * (1 + ins + len))))) ∧ Below w.heap.size w w' := by
 have hB0 : Below w.heap.size w (w.alloc (.cells #[.int .i64 ins, .slice p len cap] 24)) := bal (Below.refl _ _) _
 have HI := hide hI
 clear hI
 go_enter Tryz.func63, Tryz.ntmps63
 go_wp2_with (first | (go_at_call 67; refine (literal_any _ (by omega) (by omega) _).mono ?_; rintro e w' ⟨rfl, rfl⟩) | fail)
 refine (nodes_any _ _ _ _ h0 h1 h2 _).mono ?_
 rintro e w1 ⟨rfl, hb1⟩
 have HB1 := hide (bthen hB0 hb1)
 clear hb1 hB0
 go_wp2_with (first | (go_at_call 67; refine (literal_any _ (by omega) (by omega) _).mono ?_; rintro e w' ⟨rfl, rfl⟩) | fail)
 have hb2 : Below w'.heap.size w' (w'.alloc (.cells #[.int .i64 (2 * (1 + ins + ↑len))] 3)) := bal (Below.refl _ _) _
 refine (containsFunc_any 85 _ (noLit (2 * (1 + ins + ↑len))) l q qc _ hl ((HI.out.later HB1.out).later hb2) enter30 fun wr hb i hi => has1_any _ _ _ _ (cell_later hb (by simp [go_sem]))).mono ?_
 rintro e w2 ⟨rfl, hb3⟩
 have HB2 := hide (bthen (bthen HB1.out hb2) hb3)
 clear HB1 hb2 hb3
 go_wp2
 go_ret
 exact ⟨rfl, HB2.out⟩
end Go.Proofs.YtjhkecnnhddhbaaGreatDoor

namespace Go.Proofs.YtjhkecnnhddhbaaGreatDoor
open Go.RowKit Go.Maps Go.WideMaps
set_option maxRecDepth 100000
def Wf (x : Int) : Prop := -9223372036854775808 ≤ x ∧ x ≤ 9223372036854775807
theorem Wf.lit {x : Int} (h : Wf x) : (Lit.int .i64 x).wf = true := WalkArith.wf_i64 h
theorem arr : ArrKey Tryz.prog 75 3 2 := ⟨Tryz.underlying75, by kernel_rfl, by kernel_rfl, by kernel_rfl⟩
theorem law55 : Keyed Tryz.prog 75 := Keyed.of_law arr.law
theorem sized : ∃ m, Tryz.prog.types.size = m + 1 := ⟨360, by kernel_rfl⟩
def keyL (a b : Int) : Lit := .string (keyBytes [.int .i64 a, .int .i64 b])
theorem key55 {a b : Int} (ha : Wf a) (hb : Wf b) : keyOf Tryz.prog 75 (arr2 a b) = some (keyL a b) := keyOf_pair arr Tryz.underlying3 sized ha.lit hb.lit
theorem keyL_inj {a b c d : Int} (ha : Wf a) (hb : Wf b) (hc : Wf c) (hd : Wf d) : keyL a b = keyL c d ↔ (a, b) = (c, d) := by
 constructor
 · intro h
   have h1 := key55 ha hb
   rw [h] at h1
   have := law55.inj h1 (key55 hc hd)
   simp at this
   simp [this]
 · intro h
   cases h
   rfl
def eqP (a b c d : Int) : Bool := decide ((a, b) = (c, d))
theorem run_equal55 {a b c d : Int} (ha : Wf a) (hb : Wf b) (hc : Wf c) (hd : Wf d) (w : World) : (Op.equal 75 (arr2 a b) (arr2 c d)).run Tryz.prog w = .ok (eqP a b c d) w := by
 obtain ⟨r, h1, h2⟩ := run_equal_deep w (m := 2) (by omega) (arr.at 0) arr.wide (key55 ha hb) (key55 hc hd)
 rw [h1]
 congr 1
 rw [Bool.eq_iff_iff, h2, keyL_inj ha hb hc hd]
 simp [eqP]
theorem run_eql55 {a b c d : Int} (ha : Wf a) (hb : Wf b) (hc : Wf c) (hd : Wf d) (w : World) : (binOp .eql 75 (arr2 a b) (arr2 c d)).run Tryz.prog w = .ok (.bool (eqP a b c d)) w := by
 simp only [binOp]
 simp [run_equal55 ha hb hc hd w]
def WfP (ps : List (Int × Int)) : Prop := ∀ (i : Nat) (h : i < ps.length), Wf ps[i].1 ∧ Wf ps[i].2
def andAt (ps : List (Int × Int)) (k : Nat) (x : Int × Int) : Int := match (ps.take k).findIdx? (· == x) with | some i => (i : Int) | none => -1
theorem andAt_hit (ps : List (Int × Int)) (n k : Nat) (x : Int × Int) (hk : k < ps.length) (hn : k < n) (h : ∀ i (hi : i < ps.length), i < k → ps[i] ≠ x) (hx : ps[k] = x) : andAt ps n x = k := by
 have : (ps.take n).findIdx? (· == x) = some k := by
   rw [List.findIdx?_eq_some_iff_getElem]
   refine ⟨by rw [List.length_take]; omega, by simp [hx], fun j hj => ?_⟩
   simp only [List.getElem_take]
   simpa using h j (by omega) hj
 unfold andAt
 rw [this]
theorem andAt_miss (ps : List (Int × Int)) (n : Nat) (x : Int × Int) (h : ∀ i (hi : i < ps.length), i < n → ps[i] ≠ x) : andAt ps n x = -1 := by
 have : (ps.take n).findIdx? (· == x) = none := by
   rw [List.findIdx?_eq_none_iff]
   intro y hy
   obtain ⟨i, hi, rfl⟩ := List.getElem_of_mem hy
   simp only [List.getElem_take]
   rw [List.length_take] at hi
   simpa using h i (by omega) (by omega)
 unfold andAt
 rw [this]
set_option maxHeartbeats 2000000 in
theorem andAt_any (ins : Int) (p : Option Addr) (cap : Nat) (ps : List (Int × Int)) (hl : ps.length ≤ 1000001) (hwf : WfP ps) (n : Nat) (hn : n ≤ ps.length) (a b : Int) (ha : Wf a) (hb : Wf b) (w : World) (hP : PairsAt w p ps) :
   Calls Tryz.prog 72 #[gval ins p ps.length cap, .int .i64 n, arr2 a b] w fun e w' => e = .returned (.int .i64 (andAt ps n (a, b))) ∧ Below w.heap.size w w' := by
 have HWF := hide hwf
 have HAB := hide (And.intro ha hb)
 clear hwf ha hb
 have hB0 : Below w.heap.size w ((w.alloc (.cells #[.int .i64 ins, .slice p ps.length cap] 24)).alloc (.cells #[.int .i64 a, .int .i64 b] 75)) := bal (bal (Below.refl _ _) _) _
 go_enter Tryz.func72, Tryz.ntmps72
 go_wp2
 go_loopw [7] (fun i wr => ∃ k : Nat, k ≤ n ∧ i = .int .i64 k ∧ Hid (∀ i (hi : i < ps.length), i < k → ps[i] ≠ (a, b)) ∧ Below w.heap.size w wr ∧ wr.cell? ⟨w.heap.size, 1, none⟩ = some (.slice p ps.length cap) ∧ wr.cell? ⟨w.heap.size + 1, 0, none⟩ = some (.int .i64 a) ∧ wr.cell? ⟨w.heap.size + 1, 1, none⟩ = some (.int .i64 b)) (fun i _ => n - (intOf i).toNat)
 case atStart => exact ⟨0, Nat.zero_le _, rfl, fun i hi h => by omega, hB0, by simp [go_sem], by simp [go_sem], by simp [go_sem]⟩
 case round =>
   obtain ⟨k, hk, rfl, hno, hbw, q1, r0, r1⟩ := hrel
   by_cases hlt : k < n
   · have hkl : k < ps.length := by omega
     obtain ⟨bb, off, rfl, hc⟩ := (hP.later hbw) (by omega)
     obtain ⟨c0, c1⟩ := hc k hkl
     have HH := hide (andAt_hit ps n k (a, b) hkl hlt hno.out)
     have HN : Hid (ps[k] ≠ (a, b) → ∀ i (hi : i < ps.length), i < k + 1 → ps[i] ≠ (a, b)) := by
       intro hne i hi h
       rcases Nat.lt_succ_iff_lt_or_eq.1 h with h1 | rfl
       · exact hno.out i hi h1
       · exact hne
     have hki : (k : Int) < (ps.length : Int) := by omega
     have hwk := HWF.out k hkl
     have he := @run_eql55 ps[k].1 ps[k].2 a b hwk.1 hwk.2 HAB.out.1 HAB.out.2
     clear hc hno hwk
     generalize ps[k] = pr at *
     obtain ⟨s, y⟩ := pr
     simp only at *
     cases hx : eqP s y a b
     · rw [hx] at he
       have HNN := hide (HN.out (by simpa [eqP] using hx))
       clear hx HH HN
       go_wp2
       go_quiet (fail)
       go_wp2
       go_roundw
       case rel => exact ⟨k + 1, by omega, by go_num, HNN, bdn hbw _, q1, r0, r1⟩
       case measure => simp [intOf]; omega
     · rw [hx] at he
       have HV := hide (HH.out (by simpa [eqP] using hx))
       clear hx HH HN
       go_wp2
       go_quiet (fail)
       go_wp2
       go_ret
       exact ⟨ret_int HV.out.symm, bdn hbw _⟩
   · have HV : Hid (andAt ps n (a, b) = -1) := andAt_miss ps n (a, b) (fun i hi h => hno.out i hi (by omega))
     go_wp2
     go_ret
     exact ⟨ret_int HV.out.symm, hbw⟩
def isLit (e x : Int) : Bool := !noLit e x
theorem isLit_any (ins : Int) (p : Option Addr) (len cap : Nat) (x : Int) (h0 : 0 ≤ ins) (h1 : ins ≤ 1000) (h2 : len ≤ 1000001) (w : World) :
   Calls Tryz.prog 53 #[gval ins p len cap, .int .i64 x] w fun r w' => r = .returned (.bool (isLit (2 * (1 + ins + len)) x)) ∧ Below w.heap.size w w' := by
 have HE : Hid (btw x 0 (2 * (1 + ins + len) - 1) = isLit (2 * (1 + ins + len)) x) := by
   rw [Bool.eq_iff_iff, btw_true]; simp [isLit, noLit, Hid]; omega
 generalize isLit (2 * (1 + ins + len)) x = R at *
 go_enter Tryz.func53, Tryz.ntmps53
 go_wp2_with (go_at_call 21; refine (between_any _ _ _ _).mono ?_; rintro e w' ⟨rfl, rfl⟩)
 go_ret
 exact ⟨ret_bool HE.out, bal (Below.refl _ _) _⟩
set_option maxHeartbeats 2000000 in
theorem areLits_any (ins : Int) (p : Option Addr) (len cap : Nat) (h0 : 0 ≤ ins) (h1 : ins ≤ 1000) (h2 : len ≤ 1000001) (l : List Int) (q : Option Addr) (qc : Nat) (hl : l.length ≤ maxLen) (w : World) (hI : IntsAt w q l) :
   Calls Tryz.prog 54 #[gval ins p len cap, .slice q l.length qc] w fun r w' => r = .returned (.bool (l.all (isLit (2 * (1 + ins + len))))) ∧ Below w.heap.size w w' := by
 have hB0 : Below w.heap.size w (w.alloc (.cells #[.int .i64 ins, .slice p len cap] 24)) := bal (Below.refl _ _) _
 unfold maxLen at hl
 go_enter Tryz.func54, Tryz.ntmps54
 go_wp2
 go_loopw [5] (fun i wr => ∃ k : Nat, k ≤ l.length ∧ i = .int .i64 k ∧ Hid (∀ i (hi : i < l.length), i < k → isLit (2 * (1 + ins + len)) l[i] = true) ∧ Below w.heap.size w wr ∧ wr.cell? ⟨w.heap.size, 0, none⟩ = some (.int .i64 ins) ∧ wr.cell? ⟨w.heap.size, 1, none⟩ = some (.slice p len cap)) (fun i _ => l.length - (intOf i).toNat)
 case atStart => exact ⟨0, Nat.zero_le _, rfl, fun i hi h => by omega, hB0, by simp [go_sem], by simp [go_sem]⟩
 case round =>
   obtain ⟨k, hk, rfl, hno, hbw, q0, q1⟩ := hrel
   by_cases hlt : k < l.length
   · obtain ⟨bb, off, rfl, hc⟩ := (hI.later hbw) (by omega)
     have c0 := hc k hlt
     have hki : (k : Int) < (l.length : Int) := by omega
     have HB := hide hbw
     cases hx : isLit (2 * (1 + ins + len)) l[k]
     · have HX : Hid (l.all (isLit (2 * (1 + ins + len))) = false) := by
         rw [Bool.eq_false_iff]; intro h; rw [List.all_eq_true] at h; rw [h _ (List.getElem_mem hlt)] at hx; cases hx
       have HX2 := hide hx
       clear hc hx hno hbw hB0
       generalize l[k] = x at *
       go_wp2
       go_region_held3 (fun w' => w'.cell? ⟨w.heap.size, 0, none⟩ = some (.int .i64 ins) ∧ w'.cell? ⟨w.heap.size, 1, none⟩ = some (.slice p len cap) ∧ w'.cell? ⟨bb, off + k, none⟩ = some (.int .i64 x))
         (first | exact ⟨q0, q1, c0⟩ | exact ⟨cell_later hb1 q0, cell_later hb1 q1, cell_later hb1 c0⟩ | go_keep)
         ((go_at_call 53; refine (isLit_any _ _ _ _ _ h0 h1 h2 _).mono ?_; rintro e w1 ⟨rfl, hb1⟩; rw [HX2.out]))
       have HB2 := hide (bthen HB.out.drew hb1)
       clear hb1
       go_wp2
       go_ret
       exact ⟨ret_bool HX.out.symm, HB2.out⟩
     · have HN : Hid (∀ i (hi : i < l.length), i < k + 1 → isLit (2 * (1 + ins + len)) l[i] = true) := by
         intro i hi h
         rcases Nat.lt_succ_iff_lt_or_eq.1 h with h1 | rfl
         · exact hno.out i hi h1
         · exact hx
       have HX2 := hide hx
       clear hc hx hno hbw hB0
       generalize l[k] = x at *
       go_wp2
       go_region_held3 (fun w' => w'.cell? ⟨w.heap.size, 0, none⟩ = some (.int .i64 ins) ∧ w'.cell? ⟨w.heap.size, 1, none⟩ = some (.slice p len cap) ∧ w'.cell? ⟨bb, off + k, none⟩ = some (.int .i64 x))
         (first | exact ⟨q0, q1, c0⟩ | exact ⟨cell_later hb1 q0, cell_later hb1 q1, cell_later hb1 c0⟩ | go_keep)
         ((go_at_call 53; refine (isLit_any _ _ _ _ _ h0 h1 h2 _).mono ?_; rintro e w1 ⟨rfl, hb1⟩; rw [HX2.out]))
       have HB2 := hide (bthen HB.out.drew hb1)
       have q0' := cell_later hb1 (show wr.drew.cell? _ = _ from q0)
       have q1' := cell_later hb1 (show wr.drew.cell? _ = _ from q1)
       clear hb1
       go_wp2
       go_roundw
       case rel => exact ⟨k + 1, by omega, by go_num, HN, HB2.out, q0', q1'⟩
       case measure => simp [intOf]; omega
   · have HV : Hid (l.all (isLit (2 * (1 + ins + len))) = true) := by
       rw [List.all_eq_true]
       intro x hx
       obtain ⟨i, hi, rfl⟩ := List.getElem_of_mem hx
       exact hno.out i hi (by omega)
     go_wp2
     go_ret
     exact ⟨ret_bool HV.out.symm, hbw⟩
end Go.Proofs.YtjhkecnnhddhbaaGreatDoor

namespace Go.Proofs.YtjhkecnnhddhbaaGreatDoor
open Go.RowKit Go.Maps Go.WideMaps
set_option maxRecDepth 100000
def stN (ins : Int) (ps : List (Int × Int)) : Nat → Bool
 | 0 => true
 | k + 1 => stN ins ps k && (match ps[k]? with | some p => standB p.1 p.2 (1 + ins + k) | none => true)
theorem stN_succ {ins : Int} {ps : List (Int × Int)} {k : Nat} (h : k < ps.length) : stN ins ps (k + 1) = (stN ins ps k && standB ps[k].1 ps[k].2 (1 + ins + k)) := by
 simp [stN, List.getElem?_eq_getElem h]
theorem stN_down {ins : Int} {ps : List (Int × Int)} {k n : Nat} (h : stN ins ps n = true) (hk : k ≤ n) : stN ins ps k = true := by
 induction n with
 | zero => obtain rfl : k = 0 := by omega
           exact h
 | succ n ih =>
   by_cases e : k = n + 1
   · rw [e]; exact h
   · simp only [stN, Bool.and_eq_true] at h
     exact ih h.1 (by omega)
def dupN (ps : List (Int × Int)) : Nat → Bool
 | 0 => false
 | k + 1 => dupN ps k || (match ps[k]? with | some p => decide (0 ≤ andAt ps k p) | none => false)
theorem dupN_succ {ps : List (Int × Int)} {k : Nat} (h : k < ps.length) : dupN ps (k + 1) = (dupN ps k || decide (0 ≤ andAt ps k ps[k])) := by
 simp [dupN, List.getElem?_eq_getElem h]
theorem dupN_up {ps : List (Int × Int)} {k n : Nat} (h : dupN ps k = true) (hk : k ≤ n) : dupN ps n = true := by
 induction n with
 | zero => obtain rfl : k = 0 := by omega
           exact h
 | succ n ih =>
   by_cases e : k = n + 1
   · rw [← e]; exact h
   · simp only [dupN, Bool.or_eq_true]
     exact Or.inl (ih (by omega))
def chkE (ins : Int) (ps : List (Int × Int)) : Int :=
 if btw ins 0 1000 = false then 3 else if 1000000 < ps.length then 2 else if stN ins ps ps.length = false then 4 else if dupN ps ps.length = true then 6 else 0
theorem chk_range {ins : Int} {ps : List (Int × Int)} (h : btw ins 0 1000 = false) : chkE ins ps = 3 := by unfold chkE; rw [if_pos h]
theorem chk_many {ins : Int} {ps : List (Int × Int)} (h : btw ins 0 1000 = true) (h2 : 1000000 < ps.length) : chkE ins ps = 2 := by unfold chkE; rw [if_neg (by simp [h]), if_pos h2]
theorem chk_state {ins : Int} {ps : List (Int × Int)} (h : btw ins 0 1000 = true) (h2 : ps.length ≤ 1000000) (h3 : stN ins ps ps.length = false) : chkE ins ps = 4 := by unfold chkE; rw [if_neg (by simp [h]), if_neg (by omega), if_pos h3]
theorem chk_twice {ins : Int} {ps : List (Int × Int)} (h : btw ins 0 1000 = true) (h2 : ps.length ≤ 1000000) (h3 : stN ins ps ps.length = true) (h4 : dupN ps ps.length = true) : chkE ins ps = 6 := by
 unfold chkE; rw [if_neg (by simp [h]), if_neg (by omega), if_neg (by simp [h3]), if_pos h4]
theorem chk_ok {ins : Int} {ps : List (Int × Int)} (h : btw ins 0 1000 = true) (h2 : ps.length ≤ 1000000) (h3 : stN ins ps ps.length = true) (h4 : dupN ps ps.length = false) : chkE ins ps = 0 := by
 unfold chkE; rw [if_neg (by simp [h]), if_neg (by omega), if_neg (by simp [h3]), if_neg (by simp [h4])]
theorem chk_zero {ins : Int} {ps : List (Int × Int)} (h : chkE ins ps = 0) : 0 ≤ ins ∧ ins ≤ 1000 ∧ ps.length ≤ 1000000 ∧ stN ins ps ps.length = true ∧ dupN ps ps.length = false := by
 unfold chkE at h
 split at h
 · cases h
 split at h
 · cases h
 split at h
 · cases h
 split at h
 · cases h
 rename_i h1 h2 h3 h4
 have h1' := btw_true.1 (by simpa using h1)
 exact ⟨h1'.1, h1'.2, by omega, by simpa using h3, by simpa using h4⟩
end Go.Proofs.YtjhkecnnhddhbaaGreatDoor

namespace Go.Proofs.YtjhkecnnhddhbaaGreatDoor
open Go.RowKit Go.Maps Go.WideMaps
set_option maxRecDepth 100000
theorem andAt_ge (ps : List (Int × Int)) (k : Nat) (x : Int × Int) : -1 ≤ andAt ps k x ∧ andAt ps k x ≤ k := by
 unfold andAt
 cases h : (ps.take k).findIdx? (· == x) with
 | none => simp
 | some i =>
   rw [List.findIdx?_eq_some_iff_getElem] at h
   obtain ⟨h1, _⟩ := h
   rw [List.length_take] at h1
   simp
   omega
set_option maxRecDepth 100000 in
set_option maxHeartbeats 4000000 in
theorem checkGraph_any (ins : Int) (p : Option Addr) (cap : Nat) (ps : List (Int × Int)) (hwf : WfP ps) (hl : ps.length ≤ 8796093022208) (w : World) (hP : PairsAt w p ps) :
   Calls Tryz.prog 52 #[gval ins p ps.length cap] w fun e w' => e = .returned (.int .i64 (chkE ins ps)) ∧ Below w.heap.size w w' := by
 have HWF := hide hwf
 have hB0 : Below w.heap.size w (w.alloc (.cells #[.int .i64 ins, .slice p ps.length cap] 24)) := bal (Below.refl _ _) _
 clear hwf
 cases hr : btw ins 0 1000
 · have HE := hide (chk_range (ps := ps) hr)
   generalize chkE ins ps = R at *
   go_enter Tryz.func52, Tryz.ntmps52
   go_wp2_with (go_at_call 21; refine (between_any _ _ _ _).mono ?_; rintro e w' ⟨rfl, rfl⟩)
   go_ret
   exact ⟨ret_int HE.out.symm, hB0⟩
 by_cases hm : 1000000 < ps.length
 · have HE := hide (chk_many hr hm)
   have hm2 : (1000000 : Int) < (ps.length : Int) := by omega
   generalize chkE ins ps = R at *
   go_enter Tryz.func52, Tryz.ntmps52
   go_wp2_with (go_at_call 21; refine (between_any _ _ _ _).mono ?_; rintro e w' ⟨rfl, rfl⟩)
   go_ret
   exact ⟨ret_int HE.out.symm, hB0⟩
 have hm1 : ps.length ≤ 1000000 := by omega
 have hr2 := btw_true.1 hr
 have HCS := hide (chk_state hr hm1)
 have HCT := hide (chk_twice hr hm1)
 have HCO := hide (chk_ok hr hm1)
 have HRR := hide hr
 go_enter Tryz.func52, Tryz.ntmps52
 go_wp2_with (go_at_call 21; refine (between_any _ _ _ _).mono ?_; rintro e w' ⟨rfl, rfl⟩; rw [HRR.out])
 go_loopw [3] (fun i wr => ∃ k : Nat, k ≤ ps.length ∧ i = .int .i64 k ∧ Hid (stN ins ps k = true) ∧ Below w.heap.size w wr ∧ wr.cell? ⟨w.heap.size, 0, none⟩ = some (.int .i64 ins) ∧ wr.cell? ⟨w.heap.size, 1, none⟩ = some (.slice p ps.length cap)) (fun i _ => ps.length - (intOf i).toNat)
 case atStart => exact ⟨0, Nat.zero_le _, rfl, rfl, hB0, by simp [go_sem], by simp [go_sem]⟩
 case round =>
   obtain ⟨k, hk, rfl, hst, hbw, q0, q1⟩ := hrel
   by_cases hlt : k < ps.length
   · obtain ⟨b1, o1, rfl, hc1⟩ := (hP.later hbw) (by omega)
     obtain ⟨c0, c1⟩ := hc1 k hlt
     have hki : (k : Int) < (ps.length : Int) := by omega
     have HS := hide (stN_succ (ins := ins) hlt)
     have hwk := HWF.out k hlt
     unfold Wf at hwk
     clear hc1
     generalize ps[k] = pr at *
     obtain ⟨x, y⟩ := pr
     simp only at *
     have HBad : Hid (standB x y (1 + ins + k) = false → chkE ins ps = 4) := by
       intro hs
       refine HCS.out ?_
       rw [Bool.eq_false_iff]
       intro hh
       have := stN_down (k := k + 1) hh (by omega)
       rw [HS.out, hs] at this
       simp at this
     by_cases h1 : y ≤ x
     · have HE := hide (HBad.out (by simp [standB]; omega))
       clear HBad HS HCS HCT HCO
       go_wp2
       go_quiet (fail)
       go_wp2
       go_ret
       exact ⟨ret_int HE.out.symm, bdn hbw _⟩
     by_cases h2 : x < 2
     · have HE := hide (HBad.out (by simp [standB]; omega))
       clear HBad HS HCS HCT HCO
       go_wp2
       go_quiet (fail)
       go_wp2
       go_ret
       exact ⟨ret_int HE.out.symm, bdn hbw _⟩
     by_cases h3 : 2 * (1 + ins + k) ≤ y
     · have HE := hide (HBad.out (by simp [standB]; omega))
       clear HBad HS HCS HCT HCO
       go_wp2
       go_quiet (fail)
       go_wp2
       go_ret
       exact ⟨ret_int HE.out.symm, bdn hbw _⟩
     by_cases h4 : x / 2 = y / 2
     · have HE := hide (HBad.out (by simp [standB]; omega))
       clear HBad HS HCS HCT HCO
       go_wp2
       go_quiet (fail)
       go_wp2
       go_ret
       exact ⟨ret_int HE.out.symm, bdn hbw _⟩
     have HG : Hid (stN ins ps (k + 1) = true) := by
       rw [HS.out, hst.out]
       simp [standB, Hid]
       omega
     have h4' : (x / 2 == y / 2) = false := by simpa using h4
     clear HBad HS HCS HCT HCO
     go_wp2
     go_quiet (fail)
     go_wp2
     go_roundw
     case rel => exact ⟨k + 1, by omega, by go_num, HG, bdn hbw _, q0, q1⟩
     case measure => simp [intOf]; omega
   · obtain rfl : k = ps.length := by omega
     have HCT2 := hide (HCT.out hst.out)
     have HCO2 := hide (HCO.out hst.out)
     have HB1 := hide hbw
     clear HCS HCT HCO hst
     go_wp2
     go_loopw [6] (fun i wr => ∃ k : Nat, k ≤ ps.length ∧ i = .int .i64 k ∧ Hid (dupN ps k = false) ∧ Below w.heap.size w wr ∧ wr.cell? ⟨w.heap.size, 0, none⟩ = some (.int .i64 ins) ∧ wr.cell? ⟨w.heap.size, 1, none⟩ = some (.slice p ps.length cap)) (fun i _ => ps.length - (intOf i).toNat)
     case atStart => exact ⟨0, Nat.zero_le _, rfl, rfl, hbw, q0, q1⟩
     case round =>
       clear hbw q0 q1
       obtain ⟨k, hk, rfl, hst, hbw, q0, q1⟩ := hrel
       by_cases hlt : k < ps.length
       · have hcall := fun (w1 : World) (hb : Below w.heap.size w w1) => andAt_any ins p cap ps (by omega) HWF.out k (by omega) ps[k].1 ps[k].2 (HWF.out k hlt).1 (HWF.out k hlt).2 w1 (hP.later hb)
         obtain ⟨b1, o1, rfl, hc1⟩ := (hP.later hbw) (by omega)
         obtain ⟨c0, c1⟩ := hc1 k hlt
         have hki : (k : Int) < (ps.length : Int) := by omega
         have HS := hide (dupN_succ hlt)
         have hge := andAt_ge ps k (ps[k].1, ps[k].2)
         have HCL := hide hcall
         have HB2 := hide hbw
         clear hc1 hcall
         generalize ps[k] = pr at *
         obtain ⟨x, y⟩ := pr
         simp only at *
         generalize andAt ps k (x, y) = at1 at *
         by_cases h0 : 0 ≤ at1
         · have HE : Hid (chkE ins ps = 6) := by
             refine HCT2.out (dupN_up (k := k + 1) ?_ (by omega))
             rw [HS.out]; simp [h0]
           clear HCT2 HCO2 HS hst
           go_wp2
           go_region_held3 (fun w' => w'.cell? ⟨w.heap.size, 0, none⟩ = some (.int .i64 ins) ∧ w'.cell? ⟨w.heap.size, 1, none⟩ = some (.slice (some ⟨b1, o1, none⟩) ps.length cap) ∧ w'.cell? ⟨b1, o1 + k * 2, none⟩ = some (.int .i64 x) ∧ w'.cell? ⟨b1, o1 + k * 2 + 1, none⟩ = some (.int .i64 y))
             (first | exact ⟨q0, q1, c0, c1⟩ | exact ⟨cell_later hb1 q0, cell_later hb1 q1, cell_later hb1 c0, cell_later hb1 c1⟩ | go_keep)
             ((go_at_call 72; refine (HCL.out _ HB2.out.drew).mono ?_; rintro e w1 ⟨rfl, hb1⟩))
           have HB3 := hide (bthen HB2.out.drew hb1)
           clear hb1
           go_wp2
           go_ret
           exact ⟨ret_int HE.out.symm, HB3.out⟩
         · have HE : Hid (dupN ps (k + 1) = false) := by
             rw [HS.out, hst.out]; simp [h0, Hid]
           clear HCT2 HCO2 HS hst
           go_wp2
           go_region_held3 (fun w' => w'.cell? ⟨w.heap.size, 0, none⟩ = some (.int .i64 ins) ∧ w'.cell? ⟨w.heap.size, 1, none⟩ = some (.slice (some ⟨b1, o1, none⟩) ps.length cap) ∧ w'.cell? ⟨b1, o1 + k * 2, none⟩ = some (.int .i64 x) ∧ w'.cell? ⟨b1, o1 + k * 2 + 1, none⟩ = some (.int .i64 y))
             (first | exact ⟨q0, q1, c0, c1⟩ | exact ⟨cell_later hb1 q0, cell_later hb1 q1, cell_later hb1 c0, cell_later hb1 c1⟩ | go_keep)
             ((go_at_call 72; refine (HCL.out _ HB2.out.drew).mono ?_; rintro e w1 ⟨rfl, hb1⟩))
           have HB3 := hide (bthen HB2.out.drew hb1)
           have q0' := cell_later hb1 (show wr.drew.cell? _ = _ from q0)
           have q1' := cell_later hb1 (show wr.drew.cell? _ = _ from q1)
           clear hb1
           go_wp2
           go_roundw
           case rel => exact ⟨k + 1, by omega, by go_num, HE, HB3.out, q0', q1'⟩
           case measure => simp [intOf]; omega
       · obtain rfl : k = ps.length := by omega
         have HE := hide (HCO2.out hst.out)
         go_wp2
         go_ret
         exact ⟨ret_int HE.out.symm, hbw⟩
end Go.Proofs.YtjhkecnnhddhbaaGreatDoor
