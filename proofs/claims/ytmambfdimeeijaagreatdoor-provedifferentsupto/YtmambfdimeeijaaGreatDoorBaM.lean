/- Clauses of gates: those of an And, of a root; do they fit. -/
import Derived.Test.YtmambfdimeeijaaGreatDoorCb
import Derived.Test.YtmambfdimeeijaaGreatDoorCaM
import Derived.Test.YtmambfdimeeijaaGreatDoorGfM
namespace Go.Proofs.YtmambfdimeeijaaGreatDoor
open Go.RowKit Go.Maps Go.WideMaps
set_option maxRecDepth 100000
theorem numL_bd {x : Int} (h : 0 ≤ x) (h2 : x ≤ 10000000) : -10000000 ≤ numL x ∧ numL x ≤ 10000000 := by
 unfold numL
 split <;> omega
def numsOf (rs : List Row) : List (List Int) := rs.map Row.ns
theorem numsOf_len (rs : List Row) : (numsOf rs).length = rs.length := by simp [numsOf]
theorem numsOf_app (rs : List Row) (r : Row) : numsOf (rs ++ [r]) = numsOf rs ++ [r.ns] := by simp [numsOf]
theorem ints_two {w : World} (x y : Int) : IntsAt (w.alloc (.cells #[.int .i64 x, .int .i64 y] 3)) (some ⟨w.heap.size, 0, none⟩) [x, y] := fun _ => ⟨w.heap.size, 0, rfl, fun i hi => by
 match i, hi with
 | 0, _ => simp [go_sem]
 | 1, _ => simp [go_sem]⟩
theorem ints_three {w : World} (x y z : Int) : IntsAt (w.alloc (.cells #[.int .i64 x, .int .i64 y, .int .i64 z] 3)) (some ⟨w.heap.size, 0, none⟩) [x, y, z] := fun _ => ⟨w.heap.size, 0, rfl, fun i hi => by
 match i, hi with
 | 0, _ => simp [go_sem]
 | 1, _ => simp [go_sem]
 | 2, _ => simp [go_sem]⟩
set_option maxRecDepth 100000 in
set_option maxHeartbeats 4000000 in
theorem andM_any (base M : Nat) (v : Value) (vars : Int) (rs : List Row) (hrs : rs.length ≤ 3500000) (n a b : Int) (hn : 0 ≤ n) (hn2 : n ≤ 10000000) (ha : 0 ≤ a) (ha2 : a ≤ 10000000) (hb : 0 ≤ b) (hb2 : b ≤ 10000000) (w : World) (hbs : base ≤ w.heap.size) (hmk : Cm w base M v vars rs) :
   Calls Tryz.prog 44 #[.pointer (some ⟨M, 0, none⟩), .int .i64 n, arr2 a b] w fun e w' => e = .returned (.tuple #[]) ∧ ∃ v' rs', numsOf rs' = numsOf rs ++ andC n a b ∧ Cm w' base M v' vars rs' ∧ Below base w w' ∧ Kp M w v w' v' := by
 have hna := numL_bd ha ha2
 have hnb := numL_bd hb hb2
 have HC : Hid (andC n a b = [[-n, numL a], [-n, numL b], [n, -numL a, -numL b]]) := rfl
 have HMK := hide hmk
 have hal : Below w.heap.size w (w.alloc (.cells #[.int .i64 a, .int .i64 b] 71)).drew := (bal (Below.refl _ _) _).drew
 clear hmk
 generalize andC n a b = C at *
 go_enter Tryz.func44, Tryz.ntmps44
 go_wp2
 go_region_held3 (fun w' => w'.cell? ⟨w.heap.size, 0, none⟩ = some (.int .i64 a) ∧ w'.cell? ⟨w.heap.size, 1, none⟩ = some (.int .i64 b))
   (first | exact ⟨by simp [go_sem], by simp [go_sem]⟩ | go_keep)
   ((go_at_call 55; refine (number_any _ (by assumption) (by assumption) _).mono ?_; rintro e w' ⟨rfl, rfl⟩))
 all_goals
   generalize numL a = x at *
   generalize numL b = y at *
   have HMK1 := hide (HMK.out.below hal)
   have HB1 := hide (hal.mono hbs)
   have HK1 := hide (Kp.later (M := M) (v := v) hal)
   have hs1 : base ≤ (w.alloc (.cells #[.int .i64 a, .int .i64 b] 71)).drew.heap.size := by simp; omega
   rename_i hHeld
   clear hHeld hal HMK
   generalize (w.alloc (.cells #[.int .i64 a, .int .i64 b] 71)).drew = w1 at *
   go_wp2_with fail
   refine (addC_any base M v vars rs (by omega) [-n, x] (by simp) (some ⟨w1.heap.size, 0, none⟩) 2 _ (by simp; omega) (HMK1.out.below (bal (Below.refl _ _) _)) (ints_two (-n) x)).mono ?_
   rintro e w2 ⟨rfl, v2, r2, hr2, hmk2, hb2, hk2⟩
   have HMK2 := hide hmk2
   have hs2 : base ≤ w2.heap.size := by have := hb2.size; simp at this; omega
   have HB2 := hide ((HB1.out.alloc hs1 _).trans hb2)
   have HR2 := hide hr2
   have HK2 := hide ((HK1.out.trans (Kp.later (bal (Below.refl _ _) _))).trans hk2)
   clear hk2 hmk2 hb2 HMK1 HB1 hr2
   go_wp2_with fail
   refine (addC_any base M v2 vars (rs ++ [r2]) (by simp; omega) [-n, y] (by simp) (some ⟨w2.heap.size, 0, none⟩) 2 _ (by simp; omega) (HMK2.out.below (bal (Below.refl _ _) _)) (ints_two (-n) y)).mono ?_
   rintro e w3 ⟨rfl, v3, r3, hr3, hmk3, hb3, hk3⟩
   have HMK3 := hide hmk3
   have hs3 : base ≤ w3.heap.size := by have := hb3.size; simp at this; omega
   have HB3 := hide ((HB2.out.alloc hs2 _).trans hb3)
   have HR3 := hide hr3
   have HK3 := hide ((HK2.out.trans (Kp.later (bal (Below.refl _ _) _))).trans hk3)
   clear hk3 hmk3 hb3 HMK2 HB2 hr3
   go_wp2_with fail
   refine (addC_any base M v3 vars (rs ++ [r2] ++ [r3]) (by simp; omega) [n, -x, -y] (by simp) (some ⟨w3.heap.size, 0, none⟩) 3 _ (by simp; omega) (HMK3.out.below (bal (Below.refl _ _) _)) (ints_three n (-x) (-y))).mono ?_
   rintro e w4 ⟨rfl, v4, r4, hr4, hmk4, hb4, hk4⟩
   have HMK4 := hide hmk4
   have HB4 := hide ((HB3.out.alloc hs3 _).trans hb4)
   have HR4 := hide hr4
   have HK4 := hide ((HK3.out.trans (Kp.later (bal (Below.refl _ _) _))).trans hk4)
   clear hk4 hmk4 hb4 HMK3 HB3 hr4
   go_wp2
   go_end0
   exact ⟨rfl, v4, _, by rw [numsOf_app, numsOf_app, numsOf_app, HR2.out, HR3.out, HR4.out, HC.out]; simp, HMK4.out, HB4.out, HK4.out⟩
set_option maxRecDepth 100000 in
set_option maxHeartbeats 4000000 in
theorem rootM_any (base M : Nat) (v : Value) (vars : Int) (rs : List Row) (hrs : rs.length ≤ 3900000) (x : Int) (hx : 0 ≤ x) (hx2 : x ≤ 10000000) (w : World) (hbs : base ≤ w.heap.size) (hmk : Cm w base M v vars rs) :
   Calls Tryz.prog 51 #[.pointer (some ⟨M, 0, none⟩), .int .i64 x] w fun e w' => e = .returned (.tuple #[]) ∧ ∃ v' rs', numsOf rs' = numsOf rs ++ rootC x ∧ Cm w' base M v' vars rs' ∧ Below base w w' ∧ Kp M w v w' v' := by
 have HMK := hide hmk
 clear hmk
 by_cases h1 : x = 1
 · subst h1
   have HC : Hid (rootC 1 = []) := rfl
   go_enter Tryz.func51, Tryz.ntmps51
   go_wp2
   go_end0
   exact ⟨rfl, v, rs, by rw [HC.out]; simp, HMK.out, Below.refl _ _, Kp.refl _ _ _⟩
 · by_cases h0 : x = 0
   · subst h0
     have HC : Hid (rootC 0 = [[]]) := rfl
     go_enter Tryz.func51, Tryz.ntmps51
     go_wp2_with fail
     refine (addC_any base M v vars rs (by omega) [] (by simp) none 0 _ hbs HMK.out (fun h => by simp at h)).mono ?_
     rintro e w2 ⟨rfl, v2, r2, hr2, hmk2, hb2, hk2⟩
     have HMK2 := hide hmk2
     have HR2 := hide hr2
     clear hmk2 hr2
     go_wp2
     go_end0
     exact ⟨rfl, v2, _, by rw [numsOf_app, HR2.out, HC.out], HMK2.out, hb2, hk2⟩
   · have HC : Hid (rootC x = [[numL x]]) := by unfold rootC; rw [if_neg h1, if_neg h0]; rfl
     have hna := numL_bd hx hx2
     have HN := hide (fun w => number_any x hx hx2 w)
     have h1' : (x == 1) = false := by simpa using h1
     have h0' : (x == 0) = false := by simpa using h0
     generalize rootC x = C at *
     generalize numL x = y at *
     go_enter Tryz.func51, Tryz.ntmps51
     go_wp2_with (first | (go_at_call 55; refine (HN.out _).mono ?_; rintro e w' ⟨rfl, rfl⟩) | fail)
     refine (addC_any base M v vars rs (by omega) [y] (by simp) (some ⟨w'.heap.size, 0, none⟩) 1 _ (by simp; omega) (HMK.out.below (bal (Below.refl _ _) _)) (ints_one y)).mono ?_
     rintro e w2 ⟨rfl, v2, r2, hr2, hmk2, hb2, hk2⟩
     have HMK2 := hide hmk2
     have HR2 := hide hr2
     have HB2 := hide (((Below.refl _ _).alloc hbs _).trans hb2)
     have HK2 := hide ((Kp.later (M := M) (v := v) (bal (Below.refl _ w') _)).trans hk2)
     clear hmk2 hr2 hb2 hk2
     go_wp2
     go_end0
     exact ⟨rfl, v2, _, by rw [numsOf_app, HR2.out, HC.out], HMK2.out, HB2.out, HK2.out⟩
def cntB (x : Int) (rs : List Int) : Nat → Nat
 | 0 => 0
 | k + 1 => cntB x rs k + (if rs.getD k x = x then 0 else 1)
theorem cntB_le (x : Int) (rs : List Int) (k : Nat) : cntB x rs k ≤ k := by
 induction k with
 | zero => exact Nat.le_refl _
 | succ k ih => unfold cntB; split <;> omega
def cntR (rs : List Int) : Nat → Nat
 | 0 => 0
 | k + 1 => cntR rs k + (if rs.getD k 1 = 1 then 0 else 1)
def fitE (ins : Int) (n : Nat) (rs : List Int) : Int := if 800000 < 3 * n + cntR rs rs.length then 2 else if 200000 < ins + n then 3 else 0
set_option maxRecDepth 100000 in
set_option maxHeartbeats 4000000 in
theorem besides_any (z : Int) (rs : List Int) (q : Option Addr) (qc : Nat) (hl : rs.length ≤ 17592186044416) (w : World) (hI : IntsAt w q rs) :
   Calls Tryz.prog 46 #[.slice q rs.length qc, .int .i64 z] w fun e w' => e = .returned (.int .i64 (cntB z rs rs.length : Nat)) ∧ w' = w := by
 have HI := hide hI
 clear hI
 go_enter Tryz.func46, Tryz.ntmps46
 go_wp2
 go_loopw [5, 10] (fun c i wr => ∃ k : Nat, k ≤ rs.length ∧ i = .int .i64 k ∧ c = .int .i64 (cntB z rs k : Nat) ∧ wr = w) (fun _ i _ => rs.length - (intOf i).toNat)
 case atStart => exact ⟨0, Nat.zero_le _, rfl, by simp [cntB], rfl⟩
 case round =>
   obtain ⟨k, hk, rfl, rfl, hwr⟩ := hrel
   obtain rfl : w = wr := hwr.symm
   have hc := cntB_le z rs k
   by_cases hlt : k < rs.length
   · obtain ⟨b, off, rfl, hcs⟩ := HI.out (by omega)
     have c0 := hcs k hlt
     have HS : Hid (cntB z rs (k + 1) = cntB z rs k + (if rs.getD k z = z then 0 else 1)) := rfl
     have hg : rs.getD k z = rs[k] := by simp [List.getD, List.getElem?_eq_getElem hlt]
     rw [hg] at HS
     clear hg hcs
     generalize rs[k] = x at *
     have hki : (k : Int) < (rs.length : Int) := by omega
     generalize cntB z rs k = cn at *
     by_cases hx : x = z
     · subst hx
       have HS2 : Hid (cntB x rs (k + 1) = cn) := by rw [HS.out]; simp [Hid]
       go_wp2
       go_roundw
       case rel => exact ⟨k + 1, by omega, by go_num, by rw [HS2.out], trivial⟩
       case measure => simp [intOf]; omega
     · have HS2 : Hid (cntB z rs (k + 1) = cn + 1) := by rw [HS.out, if_neg hx]; rfl
       have hx' : (x != z) = true := by simpa using hx
       go_wp2
       go_roundw
       case rel => exact ⟨k + 1, by omega, by go_num, by rw [HS2.out]; go_num, trivial⟩
       case measure => simp [intOf]; omega
   · obtain rfl : k = rs.length := by omega
     go_wp2
     go_ret
     exact ⟨rfl, rfl⟩
end Go.Proofs.YtmambfdimeeijaaGreatDoor

namespace Go.Proofs.YtmambfdimeeijaaGreatDoor
open Go.RowKit Go.Maps Go.WideMaps
set_option maxRecDepth 100000
theorem andsC_len (ins : Int) (ps : List (Int × Int)) (k : Nat) (h : k ≤ ps.length) : (andsC ins ps k).length = 3 * k := by
 induction k with
 | zero => rfl
 | succ k ih => rw [andsC_succ (by omega), List.length_append, ih (by omega)]; simp [andC]; omega
theorem rootC_len (x : Int) : (rootC x).length = if x = 1 then 0 else 1 := by
 unfold rootC
 split
 · rfl
 · split <;> rfl
def ofV (e x : Int) : Int := if e = 0 then x else 0
def ofL (e : Int) (L : List (List Int)) : List (List Int) := if e = 0 then L else []
structure ClAt (w : World) (p : Option Addr) (rs : List Row) : Prop where
 rows : RowsAt w p rs
 inn : InAt w rs
theorem ClAt.later {w w1 : World} {p : Option Addr} {rs : List Row} (h : ClAt w p rs) (hb : Below w.heap.size w w1) : ClAt w1 p rs := ⟨h.rows.later hb, h.inn.later hb⟩
theorem clAt_nil (w : World) : ClAt w none [] := ⟨fun h => by simp at h, fun r hr => by simp at hr⟩
abbrev cval (vars : Int) (p : Option Addr) (len cap : Nat) : Value := .agg #[.int .i64 vars, .slice p len cap]
theorem fit_zero {ins : Int} {n : Nat} {rs : List Int} (h : fitE ins n rs = 0) : 3 * n + cntR rs rs.length ≤ 800000 ∧ ins + n ≤ 200000 := by
 unfold fitE at h
 split at h
 · cases h
 · split at h
   · cases h
   · omega
theorem clAt_set {w : World} {p : Option Addr} {rws : List Row} {B i : Nat} {u : Value} (h : ClAt w p rws) (h1 : ∀ a, p = some a → a.block ≠ B) (h2 : ∀ r ∈ rws, ∀ a, r.at' = some a → a.block ≠ B) : ClAt (w.setCell ⟨B, i, none⟩ u) p rws :=
 ⟨fun h0 => by
   obtain ⟨b, off, e, hc⟩ := h.rows h0
   exact ⟨b, off, e, fun j hj => cell_set_far (hc j hj) (h1 ⟨b, off, none⟩ e)⟩, fun r hr => (h.inn r hr).set _ _ (fun a ha => h2 r hr a ha)⟩
theorem cm_zero {w : World} {vars : Int} {M : Nat} (c0 : w.cell? ⟨M, 0, none⟩ = some (.int .i64 vars)) (c1 : w.cell? ⟨M, 1, none⟩ = some (.slice none 0 0)) (f0 : w.frozen? ⟨M, 0, none⟩ = false) (f1 : w.frozen? ⟨M, 1, none⟩ = false) : Cm w M M (.slice none 0 0) vars [] :=
 ⟨c0, c1, f0, f1, World.ownsRow_nil _ _ _ _, fun r hr => by simp at hr, Nat.le_refl _, by simp [Value.ownBlock], fun r hr => by simp at hr⟩
end Go.Proofs.YtmambfdimeeijaaGreatDoor

namespace Go.Proofs.YtmambfdimeeijaaGreatDoor
open Go.RowKit Go.Maps Go.WideMaps
set_option maxRecDepth 100000
def noneC (vars n : Int) : Bool := n == 0 || decide (n < -vars) || decide (vars < n)
def rowE (vars : Int) (ns : List Int) : Int := if 200 < ns.length then 2 else if ns.any (noneC vars) = true then 5 else 0
def firstE (vars : Int) : List (List Int) → Int
 | [] => 0
 | ns :: t => if rowE vars ns ≠ 0 then rowE vars ns else firstE vars t
def chkC (vars : Int) (L : List (List Int)) : Int := if btw vars 0 200000 = false then 3 else if 800000 < L.length then 2 else firstE vars L
theorem enter58 (args : Array Value) (w : World) : (callFunc 77 args).run Tryz.prog w = .ok (.enter 77 args) w := by kernel_rfl
set_option maxHeartbeats 1000000 in
theorem check1_any (n vars : Int) (h0 : 0 ≤ vars) (h1 : vars ≤ 200000) (B : Nat) (w : World) (hB : w.cell? ⟨B, 0, none⟩ = some (.int .i64 vars)) :
   Calls Tryz.prog 77 #[.int .i64 n, .pointer (some ⟨B, 0, none⟩)] w fun r w' => r = .returned (.bool (noneC vars n)) ∧ Below w.heap.size w w' := by
 have HE : Hid (noneC vars n = (n == 0 || decide (n < -vars) || decide (vars < n))) := rfl
 generalize noneC vars n = R at *
 by_cases hz : n = 0
 · have HX : Hid (R = true) := by rw [HE.out]; simp [hz, Hid]
   subst hz
   go_enter Tryz.func77, Tryz.ntmps77
   go_wp2
   go_ret
   exact ⟨ret_bool HX.out.symm, Below.refl _ _⟩
 · have hz' : (n == 0) = false := by simpa using hz
   by_cases hl : n < -vars
   · have HX : Hid (R = true) := by rw [HE.out]; simp [hl, Hid]
     go_enter Tryz.func77, Tryz.ntmps77
     go_wp2
     go_ret
     exact ⟨ret_bool HX.out.symm, Below.refl _ _⟩
   · have HX : Hid (R = decide (vars < n)) := by rw [HE.out, hz']; simp [hl, Hid]
     go_enter Tryz.func77, Tryz.ntmps77
     go_wp2
     go_ret
     exact ⟨ret_bool HX.out.symm, Below.refl _ _⟩
theorem firstE_drop (vars : Int) (L : List (List Int)) (k : Nat) (h : k < L.length) : firstE vars (L.drop k) = if rowE vars L[k] ≠ 0 then rowE vars L[k] else firstE vars (L.drop (k + 1)) := by
 rw [List.drop_eq_getElem_cons h]
 rfl
set_option maxRecDepth 100000 in
set_option maxHeartbeats 4000000 in
theorem checkC_any (vars : Int) (p : Option Addr) (cap : Nat) (rs : List Row) (hl : rs.length ≤ 100000000000000) (hin : ∀ r ∈ rs, r.ns.length ≤ maxLen) (w : World) (hC : ClAt w p rs) :
   Calls Tryz.prog 40 #[cval vars p rs.length cap] w fun e w' => e = .returned (.int .i64 (chkC vars (numsOf rs))) ∧ Below w.heap.size w w' := by
 have hB0 : Below w.heap.size w (w.alloc (.cells #[.int .i64 vars, .slice p rs.length cap] 30)) := bal (Below.refl _ _) _
 have hnl := numsOf_len rs
 have HE : Hid (chkC vars (numsOf rs) = if btw vars 0 200000 = false then 3 else if 800000 < rs.length then 2 else firstE vars (numsOf rs)) := by unfold chkC; rw [hnl]; rfl
 have HC := hide (hC.later hB0)
 have HIN := hide hin
 clear hC hin
 generalize chkC vars (numsOf rs) = R at *
 by_cases hv : 0 ≤ vars
 · by_cases hv2 : vars ≤ 200000
   · have hbt : btw vars 0 200000 = true := btw_true.2 ⟨hv, hv2⟩
     rw [hbt, if_neg (by decide)] at HE
     have hv' : ¬ vars < 0 := by omega
     have hv2' : ¬ 200000 < vars := by omega
     by_cases hm : 800000 < rs.length
     · have HX : Hid (R = 2) := by rw [HE.out, if_pos hm]; rfl
       have hm' : (800000 : Int) < (rs.length : Int) := by omega
       go_enter Tryz.func40, Tryz.ntmps40
       go_wp2
       go_ret
       exact ⟨ret_int HX.out.symm, hB0⟩
     · rw [if_neg hm] at HE
       have hm' : ¬ (800000 : Int) < (rs.length : Int) := by omega
       have b0 : (w.alloc (.cells #[.int .i64 vars, .slice p rs.length cap] 30)).cell? ⟨w.heap.size, 0, none⟩ = some (.int .i64 vars) := by simp [go_sem]
       have HB0 := hide hB0
       clear hB0 hbt
       go_enter Tryz.func40, Tryz.ntmps40
       go_wp2
       generalize w.alloc (.cells #[.int .i64 vars, .slice p rs.length cap] 30) = w0 at *
       go_loopw [22] (fun i wr => ∃ k : Nat, k ≤ rs.length ∧ i = .int .i64 k ∧ Hid (firstE vars (numsOf rs) = firstE vars ((numsOf rs).drop k)) ∧ Below w0.heap.size w0 wr) (fun i _ => rs.length - (intOf i).toNat)
       case atStart => exact ⟨0, Nat.zero_le _, rfl, by simp [Hid], Below.refl _ _⟩
       case round =>
         obtain ⟨k, hk, rfl, hf, hbw⟩ := hrel
         have b1 := cell_later hbw b0
         have HBW := hide (bthen HB0.out hbw)
         by_cases hlt : k < rs.length
         · obtain ⟨b, off, rfl, hc⟩ := (HC.out.rows.later hbw) (by omega)
           have hck := hc k hlt
           have hki : (k : Int) < (rs.length : Int) := by omega
           have hrk : (numsOf rs)[k]'(by omega) = rs[k].ns := by simp [numsOf]
           have HD := hide (firstE_drop vars (numsOf rs) k (by omega))
           rw [hrk] at HD
           have HIR := hide ((HC.out.inn.later hbw) rs[k] (List.getElem_mem hlt))
           have hnk := HIN.out rs[k] (List.getElem_mem hlt)
           unfold maxLen at hnk
           clear hc hrk
           generalize rs[k] = r at *
           obtain ⟨ra, rn, rc⟩ := r
           unfold Row.v at hck
           simp only at *
           by_cases h2 : 200 < rn.length
           · have HX : Hid (R = 2) := by
               rw [HE.out, hf.out, HD.out]
               have : rowE vars rn = 2 := by unfold rowE; rw [if_pos h2]
               rw [this]; rfl
             have h2' : (200 : Int) < (rn.length : Int) := by omega
             clear HE HD hf
             go_wp2
             go_ret
             exact ⟨ret_int HX.out.symm, HBW.out⟩
           · have h2' : ¬ (200 : Int) < (rn.length : Int) := by omega
             have HRE : Hid (rowE vars rn = if rn.any (noneC vars) = true then 5 else 0) := by unfold rowE; rw [if_neg h2]; rfl
             have HCF := hide (containsFunc_any 77 (.pointer (some ⟨w.heap.size, 0, none⟩)) (noneC vars) rn ra rc wr (by unfold maxLen; omega) HIR.out enter58 (fun wq hb i hi => check1_any _ _ hv hv2 _ _ (cell_later hb b1)))
             cases hany : rn.any (noneC vars)
             · rw [hany] at HCF HRE
               have HNX : Hid (firstE vars (numsOf rs) = firstE vars ((numsOf rs).drop (k + 1))) := by
                 rw [hf.out, HD.out, HRE.out]; rfl
               clear HD hf hany HRE
               go_wp2_with fail
               refine HCF.out.mono ?_
               rintro e w2 ⟨rfl, hb2⟩
               have HB2 := hide (bthen hbw hb2)
               clear hb2
               go_wp2
               go_roundw
               case rel => exact ⟨k + 1, by omega, by go_num, HNX, HB2.out⟩
               case measure => simp [intOf]; omega
             · rw [hany] at HCF HRE
               have HX : Hid (R = 5) := by rw [HE.out, hf.out, HD.out, HRE.out]; rfl
               clear HD hf hany HRE HE
               go_wp2_with fail
               refine HCF.out.mono ?_
               rintro e w2 ⟨rfl, hb2⟩
               have HB2 := hide (bthen HBW.out hb2)
               clear hb2
               go_wp2
               go_ret
               exact ⟨ret_int HX.out.symm, HB2.out⟩
         · have HX : Hid (R = 0) := by
             rw [HE.out, hf.out, List.drop_of_length_le (by omega)]; rfl
           clear HE hf
           go_wp2
           go_ret
           exact ⟨ret_int HX.out.symm, HBW.out⟩
   · have hbt : btw vars 0 200000 = false := btw_false.2 (by omega)
     have HX : Hid (R = 3) := by rw [HE.out, if_pos hbt]; rfl
     have hv' : ¬ vars < 0 := by omega
     have hv2' : 200000 < vars := by omega
     go_enter Tryz.func40, Tryz.ntmps40
     go_wp2
     go_ret
     exact ⟨ret_int HX.out.symm, hB0⟩
 · have hbt : btw vars 0 200000 = false := btw_false.2 (by omega)
   have HX : Hid (R = 3) := by rw [HE.out, if_pos hbt]; rfl
   have hv' : vars < 0 := by omega
   go_enter Tryz.func40, Tryz.ntmps40
   go_wp2
   go_ret
   exact ⟨ret_int HX.out.symm, hB0⟩
end Go.Proofs.YtmambfdimeeijaaGreatDoor

namespace Go.Proofs.YtmambfdimeeijaaGreatDoor
open Go.RowKit Go.Maps Go.WideMaps
set_option maxRecDepth 100000
structure Sl where
 at' : Option Addr
 ns : List Int
 cap : Nat
abbrev Sl.v (r : Sl) : Value := .slice r.at' r.ns.length r.cap
abbrev circ (ins : Int) (p : Option Addr) (len cap : Nat) (a s : Int) (i n b h : Sl) : Value := .agg #[.int .i64 ins, .slice p len cap, .int .i64 a, .int .i64 s, i.v, n.v, b.v, h.v]
abbrev circC (ins : Int) (p : Option Addr) (len cap : Nat) (a s : Int) (i n b h : Sl) : Array Value := #[.int .i64 ins, .slice p len cap, .int .i64 a, .int .i64 s, i.v, n.v, b.v, h.v]
def badI (e x : Int) : Bool := x != -1 && noLit e x
def cirE (ins : Int) (ps : List (Int × Int)) (a s : Int) (is ns bs hs : List Int) : Int :=
 if chkE ins ps ≠ 0 then chkE ins ps
 else if a < 0 ∨ s < 0 ∨ a + s ≠ ins then 4
 else if (is.length : Int) ≠ s ∨ (ns.length : Int) ≠ s then 1
 else if (is.any (badI (2 * (1 + ins + ps.length))) || ns.any (noLit (2 * (1 + ins + ps.length))) || bs.any (noLit (2 * (1 + ins + ps.length))) || hs.any (noLit (2 * (1 + ins + ps.length)))) = true then 5 else 0
theorem enter25 (args : Array Value) (w : World) : (callFunc 74 args).run Tryz.prog w = .ok (.enter 74 args) w := by kernel_rfl
theorem any_one (f : Int → Bool) (x : Int) : [x].any f = f x := by simp
set_option maxHeartbeats 1000000 in
theorem checkB1_any (x ins : Int) (p : Option Addr) (len cap : Nat) (h0 : 0 ≤ ins) (h1 : ins ≤ 1000) (h2 : len ≤ 1000001) (B : Nat) (w : World) (c0 : w.cell? ⟨B, 0, none⟩ = some (.int .i64 ins)) (c1 : w.cell? ⟨B, 1, none⟩ = some (.slice p len cap)) :
   Calls Tryz.prog 74 #[.int .i64 x, .pointer (some ⟨B, 0, none⟩)] w fun r w' => r = .returned (.bool (badI (2 * (1 + ins + len)) x)) ∧ Below w.heap.size w w' := by
 have HE : Hid (badI (2 * (1 + ins + len)) x = (x != -1 && noLit (2 * (1 + ins + len)) x)) := rfl
 generalize badI (2 * (1 + ins + len)) x = R at *
 by_cases hx : x = -1
 · have HX : Hid (R = false) := by rw [HE.out]; simp [hx, Hid]
   subst hx
   go_enter Tryz.func74, Tryz.ntmps74
   go_wp2
   go_ret
   exact ⟨ret_bool HX.out.symm, Below.refl _ _⟩
 · have hx' : (x != -1) = true := by simpa using hx
   have HX : Hid (R = noLit (2 * (1 + ins + len)) x) := by rw [HE.out, hx']; rfl
   have hb : Below w.heap.size w (w.alloc (.cells #[.int .i64 x] 3)) := bal (Below.refl _ _) _
   have HH := hide (has_any ins p len cap h0 h1 h2 [x] (some ⟨w.heap.size, 0, none⟩) 1 (by simp [maxLen]) _ (ints_one x))
   rw [any_one] at HH
   have HB := hide hb
   clear HE hb
   generalize noLit (2 * (1 + ins + len)) x = Z at *
   go_enter Tryz.func74, Tryz.ntmps74
   go_wp2_with fail
   refine HH.out.mono ?_
   rintro e w1 ⟨rfl, hb1⟩
   have HB1 := hide (bthen HB.out hb1)
   clear hb1
   go_wp2
   go_ret
   exact ⟨ret_bool (by rw [HX.out]), HB1.out⟩
structure CirAt (w : World) (p : Option Addr) (ps : List (Int × Int)) (i n b h : Sl) : Prop where
 g : PairsAt w p ps
 i : IntsAt w i.at' i.ns
 n : IntsAt w n.at' n.ns
 b : IntsAt w b.at' b.ns
 h : IntsAt w h.at' h.ns
theorem CirAt.later {w w1 : World} {p : Option Addr} {ps : List (Int × Int)} {i n b h : Sl} (H : CirAt w p ps i n b h) (hb : Below w.heap.size w w1) : CirAt w1 p ps i n b h := ⟨H.g.later hb, H.i.later hb, H.n.later hb, H.b.later hb, H.h.later hb⟩
set_option maxHeartbeats 8000000 in
theorem checkB_any (ins : Int) (p : Option Addr) (cap : Nat) (ps : List (Int × Int)) (hwf : WfP ps) (hl : ps.length ≤ 8796093022208) (a s : Int) (ha : Wf a) (hs : Wf s) (i n b h : Sl) (hli : i.ns.length ≤ maxLen) (hln : n.ns.length ≤ maxLen) (hlb : b.ns.length ≤ maxLen) (hlh : h.ns.length ≤ maxLen) (w : World) (hC : CirAt w p ps i n b h) :
   Calls Tryz.prog 39 #[circ ins p ps.length cap a s i n b h] w fun e w' => e = .returned (.int .i64 (cirE ins ps a s i.ns n.ns b.ns h.ns)) ∧ Below w.heap.size w w' := by
 have hB0 : Below w.heap.size w (w.alloc (.cells (circC ins p ps.length cap a s i n b h) 27)) := bal (Below.refl _ _) _
 have HC := hide (check_any ins p cap ps hwf hl _ (hC.g.later hB0))
 have HK := hide hC
 unfold maxLen at hli hln hlb hlh
 clear hC hwf
 by_cases hc : chkE ins ps = 0
 · obtain ⟨h0, h1, hlen, _, _⟩ := chk_zero hc
   have HE : Hid (cirE ins ps a s i.ns n.ns b.ns h.ns = if a < 0 ∨ s < 0 ∨ a + s ≠ ins then 4 else if (i.ns.length : Int) ≠ s ∨ (n.ns.length : Int) ≠ s then 1 else if (i.ns.any (badI (2 * (1 + ins + ps.length))) || n.ns.any (noLit (2 * (1 + ins + ps.length))) || b.ns.any (noLit (2 * (1 + ins + ps.length))) || h.ns.any (noLit (2 * (1 + ins + ps.length)))) = true then 5 else 0) := by unfold cirE; rw [if_neg (by simpa using hc)]; rfl
   rw [hc] at HC
   clear hc
   generalize cirE ins ps a s i.ns n.ns b.ns h.ns = R at *
   go_enter Tryz.func39, Tryz.ntmps39
   go_wp2_with fail
   refine HC.out.mono ?_
   rintro e w1 ⟨rfl, hb1⟩
   have HB1 := hide (bthen hB0 hb1)
   have q0 := cell_later hb1 (a := ⟨w.heap.size, 0, none⟩) (v := .int .i64 ins) (by simp [go_sem])
   have q1 := cell_later hb1 (a := ⟨w.heap.size, 1, none⟩) (v := .slice p ps.length cap) (by simp [go_sem])
   have q2 := cell_later hb1 (a := ⟨w.heap.size, 2, none⟩) (v := .int .i64 a) (by simp [go_sem])
   have q3 := cell_later hb1 (a := ⟨w.heap.size, 3, none⟩) (v := .int .i64 s) (by simp [go_sem])
   have q4 := cell_later hb1 (a := ⟨w.heap.size, 4, none⟩) (v := i.v) (by simp [go_sem])
   have q5 := cell_later hb1 (a := ⟨w.heap.size, 5, none⟩) (v := n.v) (by simp [go_sem])
   have q6 := cell_later hb1 (a := ⟨w.heap.size, 6, none⟩) (v := b.v) (by simp [go_sem])
   have q7 := cell_later hb1 (a := ⟨w.heap.size, 7, none⟩) (v := h.v) (by simp [go_sem])
   obtain ⟨ia, il, ic⟩ := i
   obtain ⟨na, nl, nc⟩ := n
   obtain ⟨ba, bl, bc⟩ := b
   obtain ⟨ga, gl, gc⟩ := h
   simp only [Sl.v] at *
   have HW := hide ha
   have HWS := hide hs
   clear hb1 hB0 HC ha hs
   by_cases ha0 : a < 0
   · have HX : Hid (R = 4) := by rw [HE.out, if_pos (Or.inl ha0)]; rfl
     clear HE
     go_wp2
     go_ret
     exact ⟨ret_int HX.out.symm, HB1.out⟩
   · by_cases hs0 : s < 0
     · have HX : Hid (R = 4) := by rw [HE.out, if_pos (Or.inr (Or.inl hs0))]; rfl
       clear HE
       go_wp2
       go_ret
       exact ⟨ret_int HX.out.symm, HB1.out⟩
     · have hw := wrap_id (x := ins - a) (by have := HW.out.2; omega) (by omega)
       by_cases hsum : a + s = ins
       · have hne : (s != ins - a) = false := by simp; omega
         rw [if_neg (by omega)] at HE
         by_cases hi : (il.length : Int) = s
         · by_cases hn : (nl.length : Int) = s
           · rw [if_neg (by omega)] at HE
             have hi' : ((il.length : Int) != s) = false := by simpa using hi
             have hn' : ((nl.length : Int) != s) = false := by simpa using hn
             have HCF := hide (containsFunc_any 74 (.pointer (some ⟨w.heap.size, 0, none⟩)) (badI (2 * (1 + ins + ps.length))) il ia ic w1 (by unfold maxLen; omega) (HK.out.i.later HB1.out) enter25 (fun wq hb j hj => checkB1_any _ ins p ps.length cap h0 h1 (by omega) w.heap.size wq (cell_later hb q0) (cell_later hb q1)))
             have HH := hide (fun (l : List Int) (q : Option Addr) (qc : Nat) (hl : l.length ≤ maxLen) (w' : World) (hI : IntsAt w' q l) => has_any ins p ps.length cap h0 h1 (by omega) l q qc hl w' hI)
             clear hi hn
             cases h3 : il.any (badI (2 * (1 + ins + ps.length)))
             · rw [h3] at HCF HE
               go_wp2_with fail
               refine HCF.out.mono ?_
               rintro e w2 ⟨rfl, hb2⟩
               have p0 := cell_later hb2 q0
               have p1 := cell_later hb2 q1
               have p5 := cell_later hb2 q5
               have p6 := cell_later hb2 q6
               have p7 := cell_later hb2 q7
               have HB2 := hide (bthen HB1.out hb2)
               clear hb2 q0 q1 q2 q3 q4 q5 q6 q7 HB1 h3 HCF
               go_wp2_with fail
               refine (HH.out nl na nc (by unfold maxLen; omega) _ (HK.out.n.later HB2.out)).mono ?_
               rintro e w3 ⟨rfl, hb3⟩
               have q0 := cell_later hb3 p0
               have q1 := cell_later hb3 p1
               have q6 := cell_later hb3 p6
               have q7 := cell_later hb3 p7
               have HB3 := hide (bthen HB2.out hb3)
               clear hb3 p0 p1 p5 p6 p7 HB2
               cases h4 : nl.any (noLit (2 * (1 + ins + ps.length)))
               · rw [h4] at HE
                 clear h4
                 go_wp2_with fail
                 refine (HH.out bl ba bc (by unfold maxLen; omega) _ (HK.out.b.later HB3.out)).mono ?_
                 rintro e w4 ⟨rfl, hb4⟩
                 have p0 := cell_later hb4 q0
                 have p1 := cell_later hb4 q1
                 have p7 := cell_later hb4 q7
                 have HB4 := hide (bthen HB3.out hb4)
                 clear hb4 q0 q1 q6 q7 HB3
                 cases h5 : bl.any (noLit (2 * (1 + ins + ps.length)))
                 · rw [h5] at HE
                   clear h5
                   go_wp2_with fail
                   refine (HH.out gl ga gc (by unfold maxLen; omega) _ (HK.out.h.later HB4.out)).mono ?_
                   rintro e w5 ⟨rfl, hb5⟩
                   have HB5 := hide (bthen HB4.out hb5)
                   clear hb5 p0 p1 p7 HB4
                   cases h6 : gl.any (noLit (2 * (1 + ins + ps.length)))
                   · have HX : Hid (R = 0) := by rw [HE.out, h6]; rfl
                     clear HE h6
                     go_wp2
                     go_ret
                     exact ⟨ret_int HX.out.symm, HB5.out⟩
                   · have HX : Hid (R = 5) := by rw [HE.out, h6]; rfl
                     clear HE h6
                     go_wp2
                     go_ret
                     exact ⟨ret_int HX.out.symm, HB5.out⟩
                 · have HX : Hid (R = 5) := by rw [HE.out, h5]; rfl
                   clear HE h5
                   go_wp2
                   go_ret
                   exact ⟨ret_int HX.out.symm, HB4.out⟩
               · have HX : Hid (R = 5) := by rw [HE.out, h4]; rfl
                 clear HE h4
                 go_wp2
                 go_ret
                 exact ⟨ret_int HX.out.symm, HB3.out⟩
             · rw [h3] at HCF
               have HX : Hid (R = 5) := by rw [HE.out, h3]; rfl
               clear HE h3
               go_wp2_with fail
               refine HCF.out.mono ?_
               rintro e w2 ⟨rfl, hb2⟩
               have HB2 := hide (bthen HB1.out hb2)
               clear hb2 HB1
               go_wp2
               go_ret
               exact ⟨ret_int HX.out.symm, HB2.out⟩
           · have HX : Hid (R = 1) := by rw [HE.out, if_pos (Or.inr (by simpa using hn))]; rfl
             have hi' : ((il.length : Int) != s) = false := by simpa using hi
             have hn' : ((nl.length : Int) != s) = true := by simpa using hn
             clear HE hi hn
             go_wp2
             go_ret
             exact ⟨ret_int HX.out.symm, HB1.out⟩
         · have HX : Hid (R = 1) := by rw [HE.out, if_pos (Or.inl (by simpa using hi))]; rfl
           have hi' : ((il.length : Int) != s) = true := by simpa using hi
           clear HE hi
           go_wp2
           go_ret
           exact ⟨ret_int HX.out.symm, HB1.out⟩
       · have HX : Hid (R = 4) := by rw [HE.out, if_pos (Or.inr (Or.inr hsum))]; rfl
         have hne : (s != ins - a) = true := by simp; omega
         clear HE hsum
         go_wp2
         go_ret
         exact ⟨ret_int HX.out.symm, HB1.out⟩
 · have hne : (chkE ins ps != 0) = true := by simpa using hc
   have HE : Hid (cirE ins ps a s i.ns n.ns b.ns h.ns = chkE ins ps) := by unfold cirE; rw [if_pos hc]; rfl
   clear hc
   generalize chkE ins ps = Z at *
   generalize cirE ins ps a s i.ns n.ns b.ns h.ns = R at *
   go_enter Tryz.func39, Tryz.ntmps39
   go_wp2_with fail
   refine HC.out.mono ?_
   rintro e w1 ⟨rfl, hb1⟩
   have HB1 := hide (bthen hB0 hb1)
   clear hb1 hB0 HC
   go_wp2
   go_ret
   exact ⟨ret_int HE.out.symm, HB1.out⟩
end Go.Proofs.YtmambfdimeeijaaGreatDoor
