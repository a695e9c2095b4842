/- Steps, unrolled: a new unroller. -/
import Derived.Test.YtmambfdimeeijaaGreatDoorKm
namespace Go.Proofs.YtmambfdimeeijaaGreatDoor
open Go.RowKit Go.Maps Go.WideMaps
set_option maxRecDepth 100000
set_option maxHeartbeats 2000000 in
theorem indexFunc0_any (fn : FuncId) (f : Int → Bool) (l : List Int) (p : Option Addr) (cap : Nat) (w : World) (hl : l.length ≤ maxLen) (hI : IntsAt w p l) (hent : ∀ (args : Array Value) (w : World), (callFunc fn args).run Tryz.prog w = .ok (.enter fn args) w)
   (hcl : ∀ wr, Below w.heap.size w wr → ∀ i (h : i < l.length), Calls Tryz.prog fn #[.int .i64 l[i]] wr fun e w' => e = .returned (.bool (f l[i])) ∧ Below wr.heap.size wr w') :
   Calls Tryz.prog 105 #[.slice p l.length cap, .func (.func fn) #[] #[]] w fun e w' => e = .returned (.int .i64 (findE f l)) ∧ Below w.heap.size w w' := by
 have HC : Hid _ := hcl
 unfold maxLen at hl
 clear hcl
 go_enter Tryz.func105, Tryz.ntmps105
 go_wp2
 go_loopw [8] (fun i wr => ∃ k : Nat, k ≤ l.length ∧ i = .int .i64 k ∧ Hid (∀ i (hi : i < l.length), i < k → f l[i] = false) ∧ Below w.heap.size w wr) (fun i _ => l.length - (intOf i).toNat)
 case atStart => exact ⟨0, Nat.zero_le _, rfl, fun i hi h => by omega, Below.refl _ _⟩
 case round =>
   obtain ⟨k, hk, rfl, hno, hbw⟩ := hrel
   by_cases hlt : k < l.length
   · obtain ⟨b, off, rfl, hc⟩ := (hI.later hbw) (by omega)
     have hck := hc k hlt
     have hcall := HC.out wr hbw k hlt
     have HH : Hid _ := findE_hit f l k hlt hno.out
     clear hc
     cases hf : f l[k]
     · have HN : Hid (∀ i (hi : i < l.length), i < k + 1 → f l[i] = false) := by
         intro i hi h
         rcases Nat.lt_succ_iff_lt_or_eq.1 h with h1 | rfl
         · exact hno.out i hi h1
         · exact hf
       rw [hf] at hcall
       have HCC : Hid (Unit → _) := fun _ => hcall
       clear hcall hf hno HH
       generalize l[k] = x at *
       go_wp2_with fail
       refine (HCC.out ()).mono ?_
       rintro e w' ⟨rfl, hb2⟩
       go_wp2
       go_roundw
       case rel => exact ⟨k + 1, by omega, by go_num, HN, bthen hbw hb2⟩
       case measure => simp [intOf]; omega
     · rw [hf] at hcall
       have HCC : Hid (Unit → _) := fun _ => hcall
       have HV : Hid (findE f l = k) := HH.out hf
       clear hcall hf hno HH
       generalize l[k] = x at *
       go_wp2_with fail
       refine (HCC.out ()).mono ?_
       rintro e w' ⟨rfl, hb2⟩
       go_wp2
       go_ret
       exact ⟨ret_int HV.out.symm, bthen hbw hb2⟩
   · have HV : Hid (findE f l = -1) := findE_miss f l (fun i hi => hno.out i hi (by omega))
     go_wp2
     go_ret
     exact ⟨ret_int HV.out.symm, hbw⟩
theorem containsFunc0_any (fn : FuncId) (f : Int → Bool) (l : List Int) (p : Option Addr) (cap : Nat) (w : World) (hl : l.length ≤ maxLen) (hI : IntsAt w p l) (hent : ∀ (args : Array Value) (w : World), (callFunc fn args).run Tryz.prog w = .ok (.enter fn args) w)
   (hcl : ∀ wr, Below w.heap.size w wr → ∀ i (h : i < l.length), Calls Tryz.prog fn #[.int .i64 l[i]] wr fun e w' => e = .returned (.bool (f l[i])) ∧ Below wr.heap.size wr w') :
   Calls Tryz.prog 76 #[.slice p l.length cap, .func (.func fn) #[] #[]] w fun e w' => e = .returned (.bool (l.any f)) ∧ Below w.heap.size w w' := by
 have HC := fun _ : Unit => indexFunc0_any fn f l p cap w hl hI hent hcl
 have HG : Hid _ := findE_ge f l
 have HCC : Hid _ := HC
 clear HC hcl hent
 generalize findE f l = x at *
 go_enter Tryz.func76, Tryz.ntmps76
 go_wp2_with fail
 refine (HCC.out ()).mono ?_
 rintro e w' ⟨rfl, hb2⟩
 go_wp2
 go_ret
 exact ⟨ret_bool HG.out, hb2⟩
theorem enter16 (args : Array Value) (w : World) : (callFunc 132 args).run Tryz.prog w = .ok (.enter 132 args) w := by kernel_rfl
def hangI (x : Int) : Bool := x != -1 && x / 2 != 0
set_option maxHeartbeats 1000000 in
theorem hang1_any (x : Int) (hx : x = -1 ∨ 0 ≤ x ∧ x ≤ 100000000) (w : World) :
   Calls Tryz.prog 132 #[.int .i64 x] w fun e w' => e = .returned (.bool (hangI x)) ∧ Below w.heap.size w w' := by
 have HE : Hid (hangI x = (x != -1 && x / 2 != 0)) := rfl
 generalize hangI x = R at *
 by_cases h : x = -1
 · have HX : Hid (R = false) := by unfold Hid; rw [HE.out, h]; rfl
   subst h
   clear HE
   go_enter Tryz.func132, Tryz.ntmps132
   go_wp2
   go_ret
   exact ⟨ret_bool HX.out.symm, Below.refl _ _⟩
 · have h2 := hx.resolve_left h
   have hb : (x != -1) = true := by simpa using h
   have HX : Hid (R = (x / 2 != 0)) := by unfold Hid; rw [HE.out, hb]; rfl
   have HN := hide (node_any x h2.1 (by omega) w)
   clear HE hx h
   go_enter Tryz.func132, Tryz.ntmps132
   go_wp2_with fail
   refine HN.out.mono ?_
   rintro e w1 ⟨rfl, hw⟩
   obtain rfl : w = w1 := hw.symm
   go_wp2
   go_ret
   exact ⟨ret_bool HX.out.symm, Below.refl _ _⟩
structure CIn (w : World) (C : Ci) : Prop where
 at' : CirAt w C.p C.ps C.i C.n C.b C.h
 wf : WfP C.ps
 pl : C.ps.length ≤ 8796093022208
 wa : Wf C.a
 ws : Wf C.s
 il : C.i.ns.length ≤ maxLen
 nl : C.n.ns.length ≤ maxLen
 bl : C.b.ns.length ≤ 2000000
 hl : C.h.ns.length ≤ 2000000
theorem CIn.later {w w1 : World} {C : Ci} (h : CIn w C) (hb : Below w.heap.size w w1) : CIn w1 C := ⟨h.at'.later hb, h.wf, h.pl, h.wa, h.ws, h.il, h.nl, h.bl, h.hl⟩
def Ci.e (C : Ci) : Int := cirE C.ins C.ps C.a C.s C.i.ns C.n.ns C.b.ns C.h.ns
theorem noLit_all {e : Int} {l : List Int} (h : l.any (noLit e) = false) : ∀ x ∈ l, 0 ≤ x ∧ x < e := fun x hx => by
 have := List.any_eq_false.1 h x hx
 simp [noLit] at this
 omega
theorem co_of {w : World} {C : Ci} (h : CIn w C) (he : C.e = 0) (last : Nat) (hla : last ≤ 40) : CO w C last := by
 unfold Ci.e cirE at he
 by_cases h1 : chkE C.ins C.ps = 0
 · rw [if_neg (by simpa using h1)] at he
   obtain ⟨i0, i1, pl, st, _⟩ := chk_zero h1
   by_cases h2 : C.a < 0 ∨ C.s < 0 ∨ C.a + C.s ≠ C.ins
   · rw [if_pos h2] at he; cases he
   · rw [if_neg h2] at he
     by_cases h3 : (C.i.ns.length : Int) ≠ C.s ∨ (C.n.ns.length : Int) ≠ C.s
     · rw [if_pos h3] at he; cases he
     · rw [if_neg h3] at he
       by_cases h4 : (C.i.ns.any (badI (2 * (1 + C.ins + C.ps.length))) || C.n.ns.any (noLit (2 * (1 + C.ins + C.ps.length))) || C.b.ns.any (noLit (2 * (1 + C.ins + C.ps.length))) || C.h.ns.any (noLit (2 * (1 + C.ins + C.ps.length)))) = true
       · rw [if_pos h4] at he; cases he
       · simp only [Bool.not_eq_true, Bool.or_eq_false_iff] at h4
         obtain ⟨⟨⟨k1, k2⟩, k3⟩, k4⟩ := h4
         have hf : 1 + C.ins + (C.ps.length : Int) = 1 + C.f := by unfold Ci.f; omega
         rw [hf] at k1 k2 k3 k4
         refine ⟨h.at', i0, i1, by omega, by omega, by omega, by omega, by omega, fun k hk => ?_, fun x hx => ?_, noLit_all k2, noLit_all k3, noLit_all k4, hla, h.bl, h.hl, by omega⟩
         · have := stN_down (k := k + 1) st (by omega)
           rw [stN_succ hk, Bool.and_eq_true] at this
           exact this.2
         · have := List.any_eq_false.1 k1 x hx
           simp [badI, noLit] at this
           omega
 · rw [if_pos (by simpa using h1)] at he
   exact absurd he h1
def NewO (w : World) (C : Ci) (steps : Int) (e : Ending) (w' : World) : Prop :=
 Below w.heap.size w w' ∧ ((C.e ≠ 0 ∧ e = .returned (.tuple #[.pointer none, .int .i64 C.e])) ∨ (C.e = 0 ∧ (steps < 0 ∨ 40 < steps) ∧ e = .returned (.tuple #[.pointer none, .int .i64 3])) ∨
   (C.e = 0 ∧ 0 ≤ steps ∧ steps ≤ 40 ∧ ∃ M, e = .returned (.tuple #[.pointer (some ⟨M, 0, none⟩), .int .i64 0]) ∧ Un w w' M (.slice none 0 0) 0 [] C steps.toNat))
set_option maxHeartbeats 4000000 in
theorem newU_any (C : Ci) (steps : Int) (w : World) (hC : CIn w C) : Calls Tryz.prog 23 #[C.v, .int .i64 steps] w (NewO w C steps) := by
 have hb1 : Below w.heap.size w (w.alloc (.cells #[.int .i64 C.ins, .slice C.p C.ps.length C.cap, .int .i64 C.a, .int .i64 C.s, C.i.v, C.n.v, C.b.v, C.h.v] 27)) := bal (Below.refl _ _) _
 have hC1 := hC.later hb1
 have HCK := hide (checkB_any C.ins C.p C.cap C.ps hC.wf hC.pl C.a C.s hC.wa hC.ws C.i C.n C.b C.h hC.il hC.nl (by have := hC.bl; unfold maxLen; omega) (by have := hC.hl; unfold maxLen; omega) _ hC1.at')
 have HG : Hid ((w.alloc (.cells #[.int .i64 C.ins, .slice C.p C.ps.length C.cap, .int .i64 C.a, .int .i64 C.s, C.i.v, C.n.v, C.b.v, C.h.v] 27)).heap[w.heap.size]? = some (.cells #[.int .i64 C.ins, .slice C.p C.ps.length C.cap, .int .i64 C.a, .int .i64 C.s, C.i.v, C.n.v, C.b.v, C.h.v] 27)) := alloc_at rfl
 have hE : cirE C.ins C.ps C.a C.s C.i.ns C.n.ns C.b.ns C.h.ns = C.e := rfl
 rw [hE] at HCK
 have HB1 := hide hb1
 clear hC hC1 hb1 hE
 simp only [Sl.v] at *
 go_enter Tryz.func23, Tryz.ntmps23
 go_wp2_with fail
 generalize w.alloc (.cells #[.int .i64 C.ins, .slice C.p C.ps.length C.cap, .int .i64 C.a, .int .i64 C.s, .slice C.i.at' C.i.ns.length C.i.cap, .slice C.n.at' C.n.ns.length C.n.cap, .slice C.b.at' C.b.ns.length C.b.cap, .slice C.h.at' C.h.ns.length C.h.cap] 27) = w1 at *
 refine HCK.out.mono ?_
 rintro e w2 ⟨rfl, hb2⟩
 have HB2 := hide (bthen HB1.out hb2)
 have hG2 := (hb2.block _ (Array.getElem?_eq_some_iff.1 HG.out).1).trans HG.out
 have x0 : w2.cell? ⟨w.heap.size, 0, none⟩ = some (.int .i64 C.ins) := by rw [Lib.cell_of_heap hG2]; rfl
 have x1 : w2.cell? ⟨w.heap.size, 1, none⟩ = some (.slice C.p C.ps.length C.cap) := by rw [Lib.cell_of_heap hG2]; rfl
 have x2 : w2.cell? ⟨w.heap.size, 2, none⟩ = some (.int .i64 C.a) := by rw [Lib.cell_of_heap hG2]; rfl
 have x3 : w2.cell? ⟨w.heap.size, 3, none⟩ = some (.int .i64 C.s) := by rw [Lib.cell_of_heap hG2]; rfl
 have x4 : w2.cell? ⟨w.heap.size, 4, none⟩ = some (.slice C.i.at' C.i.ns.length C.i.cap) := by rw [Lib.cell_of_heap hG2]; rfl
 have x5 : w2.cell? ⟨w.heap.size, 5, none⟩ = some (.slice C.n.at' C.n.ns.length C.n.cap) := by rw [Lib.cell_of_heap hG2]; rfl
 have x6 : w2.cell? ⟨w.heap.size, 6, none⟩ = some (.slice C.b.at' C.b.ns.length C.b.cap) := by rw [Lib.cell_of_heap hG2]; rfl
 have x7 : w2.cell? ⟨w.heap.size, 7, none⟩ = some (.slice C.h.at' C.h.ns.length C.h.cap) := by rw [Lib.cell_of_heap hG2]; rfl
 clear hb2 hG2 HCK HG HB1
 by_cases he : C.e = 0
 · have HE0 := hide he
   rw [he]
   by_cases h0 : steps < 0
   · have HEND : Hid (NewO w C steps (.returned (.tuple #[.pointer none, .int .i64 3])) w2) := ⟨HB2.out, Or.inr (Or.inl ⟨he, Or.inl h0, rfl⟩)⟩
     clear he x0 x1 x2 x3 x4 x5 x6 x7
     go_wp2
     go_ret2
     exact HEND.out
   · by_cases h40 : 40 < steps
     · have HEND : Hid (NewO w C steps (.returned (.tuple #[.pointer none, .int .i64 3])) w2) := ⟨HB2.out, Or.inr (Or.inl ⟨he, Or.inr h40, rfl⟩)⟩
       clear he x0 x1 x2 x3 x4 x5 x6 x7
       go_wp2
       go_ret2
       exact HEND.out
     · have HEND : Hid (NewO w C steps (.returned (.tuple #[.pointer (some ⟨w2.heap.size, 0, none⟩), .int .i64 0])) (w2.alloc (.cells #[.int .i64 0, .slice none 0 0, .int .i64 C.ins, .slice C.p C.ps.length C.cap, .int .i64 C.a, .int .i64 C.s, .slice C.i.at' C.i.ns.length C.i.cap, .slice C.n.at' C.n.ns.length C.n.cap, .slice C.b.at' C.b.ns.length C.b.cap, .slice C.h.at' C.h.ns.length C.h.cap, .int .i64 steps] 86))) := by
         have hst : ((steps.toNat : Nat) : Int) = steps := by omega
         refine ⟨bal HB2.out _, Or.inr (Or.inr ⟨he, by omega, by omega, w2.heap.size, rfl, ⟨⟨by simp [go_sem], by simp [go_sem], by simp [go_sem], by simp [go_sem], World.ownsRow_nil _ _ _ _, (fun r hr => by cases hr), HB2.out.size, by simp [Value.ownBlock], (fun r hr => by cases hr)⟩, ⟨by simp [go_sem], by simp [go_sem], by simp [go_sem], by simp [go_sem], by simp [go_sem], by simp [go_sem], by simp [go_sem], by simp [go_sem], by rw [hst]; simp [go_sem]⟩, bal HB2.out _⟩⟩)⟩
       clear he
       go_wp2
       go_ret2
       exact HEND.out
 · have HEND : Hid (NewO w C steps (.returned (.tuple #[.pointer none, .int .i64 C.e])) w2) := ⟨HB2.out, Or.inl ⟨he, rfl⟩⟩
   have heb : (C.e != 0) = true := by simpa using he
   clear he x0 x1 x2 x3 x4 x5 x6 x7
   generalize C.e = E at *
   go_wp2
   go_ret2
   exact HEND.out
end Go.Proofs.YtmambfdimeeijaaGreatDoor

namespace Go.Proofs.YtmambfdimeeijaaGreatDoor
open Go.RowKit Go.Maps Go.WideMaps
set_option maxRecDepth 100000
theorem stepsL_len {f : Nat → List (List Int)} {c n : Nat} (h : ∀ k, k < n → (f k).length = c) : (stepsL f n).length = n * c := by
 induction n with
 | zero => simp [stepsL]
 | succ n ih =>
   rw [stepsL_succ, List.length_append, ih (fun k hk => h k (by omega)), h n (by omega), Nat.succ_mul]
theorem stepsL_cnt {f : Nat → List (List Int)} {g : Nat → Nat} {n : Nat} (h0 : g 0 = 0) (h : ∀ k, k < n → g (k + 1) = g k + (f k).length) : (stepsL f n).length = g n := by
 induction n with
 | zero => rw [h0]; simp [stepsL]
 | succ n ih =>
   rw [stepsL_succ, List.length_append, ih (fun k hk => h k (by omega)), h n (by omega)]
theorem mem_stepsL {f : Nat → List (List Int)} {n : Nat} {c : List Int} (h : c ∈ stepsL f n) : ∃ k, k < n ∧ c ∈ f k := by
 unfold stepsL at h
 obtain ⟨k, hk, hc⟩ := List.mem_flatMap.1 h
 exact ⟨k, List.mem_range.1 hk, hc⟩
theorem atL_one {f x : Int} {t : Nat} (h0 : 0 ≤ (t : Int) * f) (hx : 0 ≤ x) : (atL f t x = 0 ↔ x = 0) ∧ (atL f t x = 1 ↔ x = 1) := by
 unfold atL
 split <;> omega
theorem cntB_succ {z : Int} {l : List Int} {k : Nat} (h : k < l.length) : cntB z l (k + 1) = cntB z l k + (if l.getD k 0 = z then 0 else 1) := by
 show cntB z l k + (if l.getD k z = z then 0 else 1) = _
 simp [List.getD, List.getElem?_eq_getElem h]
theorem CO.f0 {w : World} {C : Ci} {last : Nat} (h : CO w C last) : 0 ≤ C.f := by unfold Ci.f; have := h.i0; omega
theorem CO.t0 {w : World} {C : Ci} {last : Nat} (h : CO w C last) (t : Nat) : 0 ≤ (t : Int) * C.f := Int.mul_nonneg (by omega) h.f0
theorem CO.sb {w : World} {C : Ci} {last : Nat} (h : CO w C last) (t i : Nat) : 2 ≤ stL C.f C.a t i := by
 have := h.t0 t
 have := h.a0
 unfold stL atL
 rw [if_neg (by omega)]
 omega
theorem ands_len {w : World} {C : Ci} {last : Nat} (_h : CO w C last) : (stepsL (fun t => andsT C t C.ps.length) (last + 1)).length = (last + 1) * (3 * C.ps.length) := stepsL_len fun _ _ => andsT_len C _ _ (Nat.le_refl _)
theorem bonds_len {w : World} {C : Ci} {last : Nat} (h : CO w C last) : (stepsL (bondsT C) last).length = last * (cntB 0 C.n.ns C.n.ns.length + cntB 1 C.n.ns C.n.ns.length) := by
 refine stepsL_len fun t _ => stepsL_cnt (g := fun k => cntB 0 C.n.ns k + cntB 1 C.n.ns k) rfl fun k hk => ?_
 have hx := h.nn _ (getD_mem' hk)
 have ha := atL_one (h.t0 t) hx.1
 simp only [cntB_succ hk]
 unfold bondC
 rw [sameC_len (h.sb _ _)]
 simp only [ha.1, ha.2]
 omega
theorem holds_len {w : World} {C : Ci} {last : Nat} (h : CO w C last) : (stepsL (holdsT C) (last + 1)).length = (last + 1) * cntB 1 C.h.ns C.h.ns.length := by
 refine stepsL_len fun t _ => stepsL_cnt (g := fun k => cntB 1 C.h.ns k) rfl fun k hk => ?_
 have hx := h.nh _ (getD_mem' hk)
 have ha := atL_one (h.t0 t) hx.1
 simp only [cntB_succ hk]
 unfold holdC
 rw [rootC_len]
 simp only [ha.2]
theorem hang_false {l : List Int} (h : l.any hangI = false) (hl : ∀ x ∈ l, x = -1 ∨ 0 ≤ x) : ∀ x ∈ l, x = -1 ∨ x = 0 ∨ x = 1 := fun x hx => by
 have h1 := List.any_eq_false.1 h x hx
 have h2 := hl x hx
 simp [hangI] at h1
 omega
theorem begins_len {w : World} {C : Ci} {last : Nat} (h : CO w C last) (hh : C.i.ns.any hangI = false) : (beginsT C).length = cntB (-1) C.i.ns C.i.ns.length := by
 refine stepsL_cnt (g := fun k => cntB (-1) C.i.ns k) rfl fun k hk => ?_
 have hx := hang_false hh (fun x hx => (h.ni x hx).imp id (fun q => q.1)) _ (getD_mem' hk)
 simp only [cntB_succ hk]
 unfold beginC
 generalize C.i.ns.getD k 0 = x at *
 by_cases hm : x = -1
 · rw [if_pos hm, if_pos hm]; rfl
 · rw [if_neg hm, if_neg hm, sameC_len (h.sb _ _)]
   rcases hx.resolve_left hm with rfl | rfl <;> rfl
theorem andsC_short {ins : Int} {ps : List (Int × Int)} {k : Nat} {c : List Int} (h : c ∈ andsC ins ps k) : c.length ≤ 3 := by
 induction k with
 | zero => cases h
 | succ k ih =>
   unfold andsC at h
   rcases List.mem_append.1 h with h | h
   · exact ih h
   · split at h
     · simp [andC] at h
       rcases h with rfl | rfl | rfl <;> simp
     · cases h
theorem rootC_short {x : Int} {c : List Int} (h : c ∈ rootC x) : c.length ≤ 1 := by
 unfold rootC at h
 split at h
 · cases h
 · split at h
   · simp at h; subst h; simp
   · simp at h; subst h; simp
theorem sameC_short {x y : Int} {c : List Int} (h : c ∈ sameC x y) : c.length ≤ 2 := by
 unfold sameC at h
 split at h
 · have := rootC_short h; omega
 · split at h
   · have := rootC_short h; omega
   · simp at h
     rcases h with rfl | rfl <;> simp
theorem badC_short {C : Ci} {last : Nat} {c : List Int} (h : c ∈ badC C last) : c.length ≤ C.b.ns.length := by
 unfold badC at h
 split at h
 · cases h
 · simp at h; subst h; exact badN_len C last _
def stepL (C : Ci) (last : Nat) (begun : Bool) : List (List Int) :=
 stepsL (fun t => andsT C t C.ps.length) (last + 1) ++ (stepsL (bondsT C) last ++ ((if begun = true then beginsT C else []) ++ (stepsL (holdsT C) (last + 1) ++ badC C last)))
theorem stepL_short {w : World} {C : Ci} {last : Nat} (h : CO w C last) {begun : Bool} {c : List Int} (hc : c ∈ stepL C last begun) : c.length ≤ 2000000 := by
 have hb := h.bl
 unfold stepL at hc
 rcases List.mem_append.1 hc with hc | hc
 · obtain ⟨k, _, hc⟩ := mem_stepsL hc
   have := andsC_short hc
   omega
 rcases List.mem_append.1 hc with hc | hc
 · obtain ⟨k, _, hc⟩ := mem_stepsL hc
   obtain ⟨j, _, hc⟩ := mem_stepsL hc
   have := sameC_short hc
   omega
 rcases List.mem_append.1 hc with hc | hc
 · split at hc
   · obtain ⟨j, _, hc⟩ := mem_stepsL hc
     unfold beginC at hc
     split at hc
     · cases hc
     · have := sameC_short hc
       omega
   · cases hc
 rcases List.mem_append.1 hc with hc | hc
 · obtain ⟨k, _, hc⟩ := mem_stepsL hc
   obtain ⟨j, _, hc⟩ := mem_stepsL hc
   have := rootC_short hc
   omega
 · have := badC_short hc
   omega
def unE (C : Ci) (steps : Int) (begun : Bool) : Int :=
 if C.e ≠ 0 then C.e else if steps < 0 ∨ 40 < steps then 3 else if (begun && C.i.ns.any hangI) = true then 7
 else if 200000 < (steps + 1) * C.f then 3 else if 800000 < (stepL C steps.toNat begun).length then 2 else chkC ((steps + 1) * C.f) (stepL C steps.toNat begun)
end Go.Proofs.YtmambfdimeeijaaGreatDoor

namespace Go.Proofs.YtmambfdimeeijaaGreatDoor
open Go.RowKit Go.Maps Go.WideMaps
set_option maxRecDepth 100000
def UnO (w : World) (E V : Int) (L : List (List Int)) (e : Ending) (w' : World) : Prop := ∃ pv cv rws,
 e = .returned (.tuple #[cval (ofV E V) pv (List.length rws) cv, .int .i64 E]) ∧ numsOf rws = ofL E L ∧ ClAt w' pv rws ∧ Below w.heap.size w w' ∧ (∀ a, pv = some a → w.heap.size ≤ a.block) ∧ ∀ r ∈ rws, ∀ a, r.at' = some a → w.heap.size ≤ a.block
theorem unO_no {w w' : World} {E V : Int} {L : List (List Int)} (hne : E ≠ 0) (hb : Below w.heap.size w w') : UnO w E V L (.returned (.tuple #[cval 0 none 0 0, .int .i64 E])) w' :=
 ⟨none, 0, [], by unfold ofV; rw [if_neg hne]; rfl, by unfold ofL; rw [if_neg hne]; rfl, clAt_nil _, hb, (fun a ha => by cases ha), (fun r hr => by cases hr)⟩
theorem unO_of {w w1 w' : World} {E V : Int} {L : List (List Int)} {G : Nat} {pv : Option Addr} {cv : Nat} {rws : List Row} (hb1 : Below w.heap.size w w1) (hG : G < w1.heap.size) (hG0 : w.heap.size ≤ G)
   (hn : numsOf rws = ofL E L) (hcl : ClAt w' pv rws) (hb : Below w1.heap.size w1 w') (hp : ∀ a, pv = some a → w1.heap.size ≤ a.block) (hr : ∀ r ∈ rws, ∀ a, r.at' = some a → w1.heap.size ≤ a.block) (u u' : Value) :
   UnO w E V L (.returned (.tuple #[cval (ofV E V) pv rws.length cv, .int .i64 E])) ((w'.setCell ⟨G, 0, none⟩ u).setCell ⟨G, 1, none⟩ u') :=
 ⟨pv, cv, rws, rfl, hn, clAt_set (clAt_set hcl (fun a ha e => by have := hp a ha; omega) (fun r h a ha e => by have := hr r h a ha; omega)) (fun a ha e => by have := hp a ha; omega) (fun r h a ha e => by have := hr r h a ha; omega),
   ((bthen hb1 hb).setCell (p := ⟨G, 0, none⟩) hG0 _).setCell (p := ⟨G, 1, none⟩) hG0 _, fun a ha => Nat.le_trans hb1.size (hp a ha), fun r h a ha => Nat.le_trans hb1.size (hr r h a ha)⟩
theorem pok_of {w0 : World} {M : Nat} {C : Ci} {last : Nat} {p : Prt} {vs : Int} {n : Nat} {L : List (List Int)} (h1 : p.vs = vs) (h2 : p.cs = n) (h3 : p.L = L) (hv0 : 0 ≤ vs) (hv1 : vs ≤ 1000000000000) (hn : L.length = n) (hn1 : n ≤ 1000000000000) (hm : ((last : Int) + 1) * C.f ≤ 200000 → Makes w0 M C last p)
   (he : ∀ (args : Array Value) (w : World), (callFunc p.fn args).run Tryz.prog w = .ok (.enter p.fn args) w) : POk w0 M C last p :=
 ⟨by omega, by omega, by rw [h2, h3, hn], by omega, hm, he⟩
theorem madE_of {ps : List Prt} {V : Int} {L : List (List Int)} (h1 : sumV ps ps.length = V) (h2 : madeL ps ps.length = L) : madE ps = if 200000 < V then 3 else if 800000 < L.length then 2 else chkC V L := by
 unfold madE
 rw [h1, h2]
set_option maxHeartbeats 16000000 in
theorem clausesU_any (C : Ci) (steps : Int) (begun : Bool) (hbg : begun = true) (w : World) (hC : CIn w C) : Calls Tryz.prog 101 #[C.v, .int .i64 steps, .bool begun] w (UnO w (unE C steps begun) ((steps + 1) * C.f) (stepL C steps.toNat begun)) := by
 have hb1 : Below w.heap.size w ((w.alloc (.cells #[.int .i64 C.ins, .slice C.p C.ps.length C.cap, .int .i64 C.a, .int .i64 C.s, C.i.v, C.n.v, C.b.v, C.h.v] 27)).alloc (.cells #[.int .i64 0, .slice none 0 0] 30)) := bal (bal (Below.refl _ _) _) _
 have hG : ((w.alloc (.cells #[.int .i64 C.ins, .slice C.p C.ps.length C.cap, .int .i64 C.a, .int .i64 C.s, C.i.v, C.n.v, C.b.v, C.h.v] 27)).alloc (.cells #[.int .i64 0, .slice none 0 0] 30)).heap[w.heap.size + 1]? = some (.cells #[.int .i64 0, .slice none 0 0] 30) := alloc_at (by simp)
 have x4 : ((w.alloc (.cells #[.int .i64 C.ins, .slice C.p C.ps.length C.cap, .int .i64 C.a, .int .i64 C.s, C.i.v, C.n.v, C.b.v, C.h.v] 27)).alloc (.cells #[.int .i64 0, .slice none 0 0] 30)).cell? ⟨w.heap.size, 4, none⟩ = some C.i.v := by simp [go_sem]
 have HIN := hide (hC.later hb1)
 have HNW := hide (newU_any C steps _ HIN.out)
 have HG := hide hG
 have HB1 := hide hb1
 have HE : Hid (unE C steps begun = if C.e ≠ 0 then C.e else if steps < 0 ∨ 40 < steps then 3 else if (begun && C.i.ns.any hangI) = true then 7
   else if 200000 < (steps + 1) * C.f then 3 else if 800000 < (stepL C steps.toNat begun).length then 2 else chkC ((steps + 1) * C.f) (stepL C steps.toNat begun)) := rfl
 clear hC hb1 hG
 unfold Ci.v circ at HNW
 simp only [Sl.v] at *
 go_enter Tryz.func101, Tryz.ntmps101
 go_wp2_with fail
 generalize (w.alloc (.cells #[.int .i64 C.ins, .slice C.p C.ps.length C.cap, .int .i64 C.a, .int .i64 C.s, .slice C.i.at' C.i.ns.length C.i.cap, .slice C.n.at' C.n.ns.length C.n.cap, .slice C.b.at' C.b.ns.length C.b.cap, .slice C.h.at' C.h.ns.length C.h.cap] 27)).alloc (.cells #[.int .i64 0, .slice none 0 0] 30) = w1 at *
 have hGl : w.heap.size + 1 < w1.heap.size := (Array.getElem?_eq_some_iff.1 HG.out).1
 refine HNW.out.mono ?_
 rintro e w2 ⟨hb2, hcase⟩
 have HB2 := hide hb2
 have HR2 := hide (r30 ((hb2.block _ hGl).trans HG.out))
 have y4 := cell_later hb2 x4
 clear HNW hb2 x4
 rcases hcase with ⟨he, rfl⟩ | ⟨he, hst, rfl⟩ | ⟨he, h0, h40, M, rfl, hU⟩
 · have HX : Hid (unE C steps begun = C.e) := by unfold Hid; rw [HE.out, if_pos he]
   obtain ⟨g0, g1, f0, f1⟩ := HR2.out.1
   have heb : (C.e != 0) = true := by simpa using he
   have HEND : Hid (UnO w C.e ((steps + 1) * C.f) (stepL C steps.toNat begun) (.returned (.tuple #[cval 0 none 0 0, .int .i64 C.e])) ((w2.setCell ⟨w.heap.size + 1, 0, none⟩ (.int .i64 0)).setCell ⟨w.heap.size + 1, 1, none⟩ (.slice none 0 0))) :=
     unO_no he (((bthen HB1.out HB2.out).setCell (p := ⟨w.heap.size + 1, 0, none⟩) (by simp) _).setCell (p := ⟨w.heap.size + 1, 1, none⟩) (by simp) _)
   clear HE he
   generalize C.e = E at *
   go_wp2
   refine bodyPost_ret (res30 rfl _ rfl (HR2.out.2 _ _)) rfl ?_
   rw [HX.out]
   exact HEND.out
 · have HX : Hid (unE C steps begun = 3) := by unfold Hid; rw [HE.out, if_neg (by simpa using he), if_pos hst]
   obtain ⟨g0, g1, f0, f1⟩ := HR2.out.1
   have HEND : Hid (UnO w 3 ((steps + 1) * C.f) (stepL C steps.toNat begun) (.returned (.tuple #[cval 0 none 0 0, .int .i64 3])) ((w2.setCell ⟨w.heap.size + 1, 0, none⟩ (.int .i64 0)).setCell ⟨w.heap.size + 1, 1, none⟩ (.slice none 0 0))) :=
     unO_no (by decide) (((bthen HB1.out HB2.out).setCell (p := ⟨w.heap.size + 1, 0, none⟩) (by simp) _).setCell (p := ⟨w.heap.size + 1, 1, none⟩) (by simp) _)
   clear HE he hst
   go_wp2
   refine bodyPost_ret (res30 rfl _ rfl (HR2.out.2 _ _)) rfl ?_
   rw [HX.out]
   exact HEND.out
 · have hst : ((steps.toNat : Nat) : Int) = steps := by omega
   have hCO : CO w1 C steps.toNat := co_of HIN.out he _ (by omega)
   have HCO := hide hCO
   have HE2 : Hid (unE C steps begun = if (begun && C.i.ns.any hangI) = true then 7
     else if 200000 < (steps + 1) * C.f then 3 else if 800000 < (stepL C steps.toNat begun).length then 2 else chkC ((steps + 1) * C.f) (stepL C steps.toNat begun)) := by unfold Hid; rw [HE.out, if_neg (by simpa using he), if_neg (by omega)]
   have hlf := hCO.lf
   have hV : (steps + 1) * C.f = ((steps.toNat + 1 : Nat) : Int) * C.f := by rw [← hst]; simp
   have hV2 : (((steps.toNat : Nat) : Int) + 1) * C.f = (steps + 1) * C.f := by rw [hst]
   have hV3 : (steps + 1) * C.f = (steps.toNat : Int) * C.f + C.f := by rw [← hV2, Int.add_mul]; omega
   have hVb : 0 ≤ (steps + 1) * C.f ∧ (steps + 1) * C.f ≤ 100000000 := by have := hCO.f0; omega
   have HV := hide hV
   have HV2 := hide hV2
   have HU := hide hU
   have hla : steps.toNat ≤ 40 := by omega
   generalize steps.toNat = last at *
   clear HE hU hCO hlf hV hV2 hV3 hst
   have hn_ands : (last + 1) * (3 * C.ps.length) ≤ 1000000000000 := Nat.le_trans (Nat.mul_le_mul (show last + 1 ≤ 41 by omega) (show 3 * C.ps.length ≤ 3000003 by have := HCO.out.p1; omega)) (by decide)
   have hn_bonds : last * (cntB 0 C.n.ns C.n.ns.length + cntB 1 C.n.ns C.n.ns.length) ≤ 1000000000000 := Nat.le_trans (Nat.mul_le_mul hla (show _ ≤ 3000 by have := cntB_le 0 C.n.ns C.n.ns.length; have := cntB_le 1 C.n.ns C.n.ns.length; have := HCO.out.nl; have := HCO.out.sm; have := HCO.out.i1; have := HCO.out.a0; omega)) (by decide)
   have hn_holds : (last + 1) * cntB 1 C.h.ns C.h.ns.length ≤ 1000000000000 := Nat.le_trans (Nat.mul_le_mul (show last + 1 ≤ 41 by omega) (show _ ≤ 2000000 by have := cntB_le 1 C.h.ns C.h.ns.length; have := HCO.out.hl; omega)) (by decide)
   have hn_begins : cntB (-1) C.i.ns C.i.ns.length ≤ 1000000000000 := by have := cntB_le (-1) C.i.ns C.i.ns.length; have := HCO.out.il; have := HCO.out.sm; have := HCO.out.i1; have := HCO.out.a0; omega
   have hn_bad : (badC C last).length ≤ 1000000000000 := by unfold badC; split <;> simp
   have HNB := hide (And.intro hn_ands (And.intro hn_bonds (And.intro hn_holds (And.intro hn_begins hn_bad))))
   clear hn_ands hn_bonds hn_holds hn_begins hn_bad
   obtain rfl : begun = true := hbg
   have HCF := hide (containsFunc0_any 132 hangI C.i.ns C.i.at' C.i.cap w2 HIN.out.il (HIN.out.at'.i.later HB2.out) enter16 (fun wr hb i hi => hang1_any _ ((HCO.out.ni _ (List.getElem_mem hi)).imp id (fun q => ⟨q.1, by have := q.2; have := HCO.out.lf; have := HCO.out.la; have := HCO.out.i1; have := HCO.out.p1; unfold Ci.f at *; omega⟩)) wr))
   cases hany : C.i.ns.any hangI with
   | true =>
     rw [hany] at HCF
     have HX : Hid (unE C steps true = 7) := by unfold Hid; rw [HE2.out, hany]; rfl
     clear HE2
     go_wp2_with fail
     refine HCF.out.mono ?_
     rintro e w3 ⟨rfl, hb3⟩
     have HR3 := hide (r30 ((hb3.block _ (by have := HB2.out.size; omega)).trans ((HB2.out.block _ hGl).trans HG.out)))
     obtain ⟨g0, g1, f0, f1⟩ := HR3.out.1
     have HEND : Hid (UnO w 7 ((steps + 1) * C.f) (stepL C last true) (.returned (.tuple #[cval 0 none 0 0, .int .i64 7])) ((w3.setCell ⟨w.heap.size + 1, 0, none⟩ (.int .i64 0)).setCell ⟨w.heap.size + 1, 1, none⟩ (.slice none 0 0))) :=
       unO_no (by decide) (((bthen HB1.out (bthen HB2.out hb3)).setCell (p := ⟨w.heap.size + 1, 0, none⟩) (by simp) _).setCell (p := ⟨w.heap.size + 1, 1, none⟩) (by simp) _)
     clear hb3 HCF hany HB2
     go_wp2
     refine bodyPost_ret (res30 rfl _ rfl (HR3.out.2 _ _)) rfl ?_
     rw [HX.out]
     exact HEND.out
   | false =>
     rw [hany] at HCF
     have HHG := hide hany
     have HE3 : Hid (unE C steps true = if 200000 < (steps + 1) * C.f then 3 else if 800000 < (stepL C last true).length then 2 else chkC ((steps + 1) * C.f) (stepL C last true)) := by unfold Hid; rw [HE2.out, hany]; rfl
     clear HE2 hany
     generalize unE C steps true = E at *
     go_wp2_with fail
     refine HCF.out.mono ?_
     rintro e w2b ⟨rfl, hb2b⟩
     have HU2b := hide (HU.out.later hb2b)
     have HB2b := hide (bthen HB2.out hb2b)
     clear hb2b HCF HB2 HU
     have HB2 := HB2b
     have HU := HU2b
     clear HB2b HU2b
     clear HR2 y4
     go_wp2_with fail
     refine (ands_any w1 M C last HCO.out w2b _ _ _ HU.out).mono ?_
     rintro e w3 ⟨p1, rfl, hv1, hc1, hL1, hd1, hb, hx1, hm1, he1⟩
     have HU1 := hide (HU.out.later hb)
     have HB3 := hide (bthen HB2.out hb)
     have HX1_1 := hide hx1
     have HP1 := hide (pok_of hv1 hc1 hL1 (by rw [← HV.out]; omega) (by rw [← HV.out]; omega) (ands_len HCO.out) HNB.out.1 hm1 he1)
     have HVL1 := hide (And.intro hv1 hL1)
     have HD1 := hide hd1
     clear hv1 hc1 hL1 hd1 hb hx1 hm1 he1
     unfold Prt.v
     go_wp2_with fail
     refine (bonds_any w1 M C last HCO.out w3 _ _ _ HU1.out).mono ?_
     rintro e w4 ⟨p2, rfl, hv2, hc2, hL2, hd2, hb, hx2, hm2, he2⟩
     have HU2 := hide (HU1.out.later hb)
     have HB4 := hide (bthen HB3.out hb)
     have HX1_2 := hide (HX1_1.out.later hb)
     have HX2_2 := hide hx2
     have HP2 := hide (pok_of hv2 hc2 hL2 (by omega) (by omega) (bonds_len HCO.out) HNB.out.2.1 hm2 he2)
     have HVL2 := hide (And.intro hv2 hL2)
     have HD2 := hide hd2
     clear hv2 hc2 hL2 hd2 hb hx2 hm2 he2
     unfold Prt.v
     go_wp2_with fail
     refine (begins_any w1 M C last HCO.out w4 _ _ _ HU2.out).mono ?_
     rintro e w5 ⟨p3, rfl, hv3, hc3, hL3, hd3, hb, hx3, hm3, he3⟩
     have HU3 := hide (HU2.out.later hb)
     have HB5 := hide (bthen HB4.out hb)
     have HX1_3 := hide (HX1_2.out.later hb)
     have HX2_3 := hide (HX2_2.out.later hb)
     have HX3_3 := hide hx3
     have HP3 := hide (pok_of hv3 hc3 hL3 (by omega) (by omega) (begins_len HCO.out HHG.out) HNB.out.2.2.2.1 hm3 he3)
     have HVL3 := hide (And.intro hv3 hL3)
     have HD3 := hide hd3
     clear hv3 hc3 hL3 hd3 hb hx3 hm3 he3
     unfold Prt.v
     go_wp2_with fail
     refine (holds_any w1 M C last HCO.out w5 _ _ _ HU3.out).mono ?_
     rintro e w6 ⟨p4, rfl, hv4, hc4, hL4, hd4, hb, hx4, hm4, he4⟩
     have HU4 := hide (HU3.out.later hb)
     have HB6 := hide (bthen HB5.out hb)
     have HX1_4 := hide (HX1_3.out.later hb)
     have HX2_4 := hide (HX2_3.out.later hb)
     have HX3_4 := hide (HX3_3.out.later hb)
     have HX4_4 := hide hx4
     have HP4 := hide (pok_of hv4 hc4 hL4 (by omega) (by omega) (holds_len HCO.out) HNB.out.2.2.1 hm4 he4)
     have HVL4 := hide (And.intro hv4 hL4)
     have HD4 := hide hd4
     clear hv4 hc4 hL4 hd4 hb hx4 hm4 he4
     unfold Prt.v
     go_wp2_with fail
     refine (bad_any w1 M C last HCO.out w6 _ _ _ HU4.out).mono ?_
     rintro e w7 ⟨p5, rfl, hv5, hc5, hL5, hd5, hb, hx5, hm5, he5⟩
     have HU5 := hide (HU4.out.later hb)
     have HB7 := hide (bthen HB6.out hb)
     have HX1_5 := hide (HX1_4.out.later hb)
     have HX2_5 := hide (HX2_4.out.later hb)
     have HX3_5 := hide (HX3_4.out.later hb)
     have HX4_5 := hide (HX4_4.out.later hb)
     have HX5_5 := hide hx5
     have HP5 := hide (pok_of hv5 hc5 hL5 (by omega) (by omega) (rfl) HNB.out.2.2.2.2 hm5 he5)
     have HVL5 := hide (And.intro hv5 hL5)
     have HD5 := hide hd5
     clear hv5 hc5 hL5 hd5 hb hx5 hm5 he5
     unfold Prt.v
     have hbP : Below w7.heap.size w7 (w7.alloc (.cells #[.int .i64 p1.vs, .int .i64 p1.cs, .func (.func p1.fn) #[] p1.caps, .int .i64 p2.vs, .int .i64 p2.cs, .func (.func p2.fn) #[] p2.caps, .int .i64 p3.vs, .int .i64 p3.cs, .func (.func p3.fn) #[] p3.caps, .int .i64 p4.vs, .int .i64 p4.cs, .func (.func p4.fn) #[] p4.caps, .int .i64 p5.vs, .int .i64 p5.cs, .func (.func p5.fn) #[] p5.caps] 65)) := bal (Below.refl _ _) _
     have hnw := HU5.out.new (Nat.le_refl w7.heap.size)
     have HPB : Hid (PrB (w7.alloc (.cells #[.int .i64 p1.vs, .int .i64 p1.cs, .func (.func p1.fn) #[] p1.caps, .int .i64 p2.vs, .int .i64 p2.cs, .func (.func p2.fn) #[] p2.caps, .int .i64 p3.vs, .int .i64 p3.cs, .func (.func p3.fn) #[] p3.caps, .int .i64 p4.vs, .int .i64 p4.cs, .func (.func p4.fn) #[] p4.caps, .int .i64 p5.vs, .int .i64 p5.cs, .func (.func p5.fn) #[] p5.caps] 65)) (.slice none 0 0) M w7.heap.size [p1, p2, p3, p4, p5]) := ⟨hnw.1, hnw.2, fun i hi => by
       match i, hi with
       | 0, _ => exact ⟨by simp [go_sem], by simp [go_sem], by simp [go_sem]⟩
       | 1, _ => exact ⟨by simp [go_sem], by simp [go_sem], by simp [go_sem]⟩
       | 2, _ => exact ⟨by simp [go_sem], by simp [go_sem], by simp [go_sem]⟩
       | 3, _ => exact ⟨by simp [go_sem], by simp [go_sem], by simp [go_sem]⟩
       | 4, _ => exact ⟨by simp [go_sem], by simp [go_sem], by simp [go_sem]⟩
       | k + 5, hi => simp at hi; omega⟩
     have hsv : sumV [p1, p2, p3, p4, p5] 5 = (steps + 1) * C.f := by
       show 0 + p1.vs + p2.vs + p3.vs + p4.vs + p5.vs = _
       rw [HVL1.out.1, HVL2.out.1, HVL3.out.1, HVL4.out.1, HVL5.out.1, HV.out]; omega
     have hml : madeL [p1, p2, p3, p4, p5] 5 = stepL C last true := by
       show p1.L ++ (p2.L ++ (p3.L ++ (p4.L ++ (p5.L ++ [])))) = _
       rw [HVL1.out.2, HVL2.out.2, HVL3.out.2, HVL4.out.2, HVL5.out.2]; simp [stepL]
     have hmd := made_parts w1 M C last [p1, p2, p3, p4, p5] (by simp) (by simp) (fun p hp => by
       simp only [List.mem_cons, List.mem_nil_iff, or_false] at hp
       rcases hp with rfl | rfl | rfl | rfl | rfl
       · exact HP1.out
       · exact HP2.out
       · exact HP3.out
       · exact HP4.out
       · exact HP5.out
       ) (fun c hc => by rw [show [p1, p2, p3, p4, p5].length = 5 from rfl, hml] at hc; have := stepL_short HCO.out hc; omega) (by rw [show [p1, p2, p3, p4, p5].length = 5 from rfl, hsv, HV2.out]; exact id) (fun k hk x hx => by
       match k, hk, hx with
       | 0, _, hx => rw [show [p1, p2, p3, p4, p5][0] = p1 from rfl, HD1.out] at hx; cases hx
       | 1, _, hx => rw [show [p1, p2, p3, p4, p5][1] = p2 from rfl, HD2.out] at hx; cases hx
       | 2, _, hx => rw [show [p1, p2, p3, p4, p5][2] = p3 from rfl, HD3.out] at hx; cases hx
       | 3, _, hx => rw [show [p1, p2, p3, p4, p5][3] = p4 from rfl, HD4.out] at hx; cases hx
       | 4, _, hx => rw [show [p1, p2, p3, p4, p5][4] = p5 from rfl, HD5.out] at hx; cases hx
       | k + 5, hk, _ => simp at hk; omega
       ) w7.heap.size _ (HU5.out.later hbP) HPB.out (fun p hp => by
       simp only [List.mem_cons, List.mem_nil_iff, or_false] at hp
       rcases hp with rfl | rfl | rfl | rfl | rfl
       · exact HX1_5.out.later hbP
       · exact HX2_5.out.later hbP
       · exact HX3_5.out.later hbP
       · exact HX4_5.out.later hbP
       · exact HX5_5.out.later hbP
       )
     rw [madE_of (V := (steps + 1) * C.f) (L := stepL C last true) hsv hml, ← HE3.out] at hmd
     rw [show [p1, p2, p3, p4, p5].length = 5 from rfl, hsv, hml] at hmd
     have HMD := hide hmd
     clear hmd hsv hml HPB hbP hnw HP1 HVL1 HP2 HVL2 HP3 HVL3 HP4 HVL4 HP5 HVL5 HX1_1 HX1_2 HX2_2 HX1_3 HX2_3 HX3_3 HX1_4 HX2_4 HX3_4 HX4_4 HX1_5 HX2_5 HX3_5 HX4_5 HX5_5
     go_wp2_with fail
     refine HMD.out.mono ?_
     rintro e w9 ⟨⟨pv, cv, rws, rfl, hn9, hcl9, hb9, hp9, hr9⟩, _⟩
     have HR9 := hide (r30 ((hb9.block _ hGl).trans HG.out))
     obtain ⟨g0, g1, f0, f1⟩ := HR9.out.1
     have HEND := hide (unO_of (V := (steps + 1) * C.f) (cv := cv) HB1.out hGl (by omega) hn9 hcl9 hb9 hp9 hr9 (.int .i64 (ofV E ((steps + 1) * C.f))) (.slice pv rws.length cv))
     clear hn9 hcl9 hb9 hp9 hr9 HMD
     generalize ofV E ((steps + 1) * C.f) = V9 at *
     go_wp2
     refine bodyPost_ret (res30 rfl _ rfl (HR9.out.2 _ _)) rfl ?_
     exact HEND.out
end Go.Proofs.YtmambfdimeeijaaGreatDoor
