/- Steps, unrolled: a new unroller. -/
import Derived.Test.YtjhkecnnhddhbaaGreatDoorKm
namespace Go.Proofs.YtjhkecnnhddhbaaGreatDoor
open Go.RowKit Go.Maps Go.WideMaps
set_option maxRecDepth 100000
set_option autoImplicit false

set_option maxHeartbeats 2000000 in
theorem indexFunc0_any (fn : FuncId) (f : Int → Bool) (l : List Int) (p : Option Addr) (cap : Nat) (w : World) (hl : l.length ≤ maxLen) (hI : IntsAt w p l) (hent : ∀ (args : Array Value) (w : World), (callFunc fn args).run Tryz.prog w = .ok (.enter fn args) w)
    (hcl : ∀ wr, Below w.heap.size w wr → ∀ i (h : i < l.length), Calls Tryz.prog fn #[.int .i64 l[i]] wr fun e w' => e = .returned (.bool (f l[i])) ∧ Below wr.heap.size wr w') :
    Calls Tryz.prog 50 #[.slice p l.length cap, .func (.func fn) #[] #[]] w fun e w' => e = .returned (.int .i64 (findE f l)) ∧ Below w.heap.size w w' := by
  have HC : Hid _ := hcl
  unfold maxLen at hl
  clear hcl
  go_enter Tryz.func50, Tryz.ntmps50
  go_wp2
  go_loopw [8] (fun i wr => ∃ k : Nat, k ≤ l.length ∧ i = .int .i64 k ∧ Hid (∀ i (hi : i < l.length), i < k → f l[i] = false) ∧ Below w.heap.size w wr) (fun i _ => l.length - (intOf i).toNat)
  case atStart => exact ⟨0, Nat.zero_le _, rfl, fun i hi h => by omega, Below.refl _ _⟩
  case round =>
    obtain ⟨k, hk, rfl, hno, hbw⟩ := hrel
    by_cases hlt : k < l.length
    · obtain ⟨b, off, rfl, hc⟩ := (hI.later hbw) (by omega)
      have hck := hc k hlt
      have hcall := HC.out wr hbw k hlt
      have HH : Hid _ := findE_hit f l k hlt hno.out
      clear hc
      cases hf : f l[k]
      · have HN : Hid (∀ i (hi : i < l.length), i < k + 1 → f l[i] = false) := by
          intro i hi h
          rcases Nat.lt_succ_iff_lt_or_eq.1 h with h1 | rfl
          · exact hno.out i hi h1
          · exact hf
        rw [hf] at hcall
        have HCC : Hid (Unit → _) := fun _ => hcall
        clear hcall hf hno HH
        generalize l[k] = x at *
        go_wp2_with fail
        refine (HCC.out ()).mono ?_
        rintro e w' ⟨rfl, hb2⟩
        go_wp2
        go_roundw
        case rel => exact ⟨k + 1, by omega, by go_num, HN, bthen hbw hb2⟩
        case measure => simp [intOf]; omega
      · rw [hf] at hcall
        have HCC : Hid (Unit → _) := fun _ => hcall
        have HV : Hid (findE f l = k) := HH.out hf
        clear hcall hf hno HH
        generalize l[k] = x at *
        go_wp2_with fail
        refine (HCC.out ()).mono ?_
        rintro e w' ⟨rfl, hb2⟩
        go_wp2
        go_ret
        exact ⟨ret_int HV.out.symm, bthen hbw hb2⟩
    · have HV : Hid (findE f l = -1) := findE_miss f l (fun i hi => hno.out i hi (by omega))
      go_wp2
      go_ret
      exact ⟨ret_int HV.out.symm, hbw⟩

theorem containsFunc0_any (fn : FuncId) (f : Int → Bool) (l : List Int) (p : Option Addr) (cap : Nat) (w : World) (hl : l.length ≤ maxLen) (hI : IntsAt w p l) (hent : ∀ (args : Array Value) (w : World), (callFunc fn args).run Tryz.prog w = .ok (.enter fn args) w)
    (hcl : ∀ wr, Below w.heap.size w wr → ∀ i (h : i < l.length), Calls Tryz.prog fn #[.int .i64 l[i]] wr fun e w' => e = .returned (.bool (f l[i])) ∧ Below wr.heap.size wr w') :
    Calls Tryz.prog 18 #[.slice p l.length cap, .func (.func fn) #[] #[]] w fun e w' => e = .returned (.bool (l.any f)) ∧ Below w.heap.size w w' := by
  have HC := fun _ : Unit => indexFunc0_any fn f l p cap w hl hI hent hcl
  have HG : Hid _ := findE_ge f l
  have HCC : Hid _ := HC
  clear HC hcl hent
  generalize findE f l = x at *
  go_enter Tryz.func18, Tryz.ntmps18
  go_wp2_with fail
  refine (HCC.out ()).mono ?_
  rintro e w' ⟨rfl, hb2⟩
  go_wp2
  go_ret
  exact ⟨ret_bool HG.out, hb2⟩

theorem enter16 (args : Array Value) (w : World) : (callFunc 16 args).run Tryz.prog w = .ok (.enter 16 args) w := by kernel_rfl
/-- Does what a bit begins as hang on something? -/
def hangI (x : Int) : Bool := x != -1 && x / 2 != 0
set_option maxHeartbeats 1000000 in
theorem hang1_any (x : Int) (hx : x = -1 ∨ 0 ≤ x ∧ x ≤ 100000000) (w : World) :
    Calls Tryz.prog 16 #[.int .i64 x] w fun e w' => e = .returned (.bool (hangI x)) ∧ Below w.heap.size w w' := by
  have HE : Hid (hangI x = (x != -1 && x / 2 != 0)) := rfl
  generalize hangI x = R at *
  by_cases h : x = -1
  · have HX : Hid (R = false) := by unfold Hid; rw [HE.out, h]; rfl
    subst h
    clear HE
    go_enter Tryz.func16, Tryz.ntmps16
    go_wp2
    go_ret
    exact ⟨ret_bool HX.out.symm, Below.refl _ _⟩
  · have h2 := hx.resolve_left h
    have hb : (x != -1) = true := by simpa using h
    have HX : Hid (R = (x / 2 != 0)) := by unfold Hid; rw [HE.out, hb]; rfl
    have HN := hide (node_any x h2.1 (by omega) w)
    clear HE hx h
    go_enter Tryz.func16, Tryz.ntmps16
    go_wp2_with fail
    refine HN.out.mono ?_
    rintro e w1 ⟨rfl, hw⟩
    obtain rfl : w = w1 := hw.symm
    go_wp2
    go_ret
    exact ⟨ret_bool HX.out.symm, Below.refl _ _⟩

/-- A circuit that comes in. -/
structure CIn (w : World) (C : Ci) : Prop where
  at' : CirAt w C.p C.ps C.i C.n C.b C.h
  wf : WfP C.ps
  pl : C.ps.length ≤ 8796093022208
  wa : Wf C.a
  ws : Wf C.s
  il : C.i.ns.length ≤ maxLen
  nl : C.n.ns.length ≤ maxLen
  bl : C.b.ns.length ≤ 2000000
  hl : C.h.ns.length ≤ 2000000
theorem CIn.later {w w1 : World} {C : Ci} (h : CIn w C) (hb : Below w.heap.size w w1) : CIn w1 C := ⟨h.at'.later hb, h.wf, h.pl, h.wa, h.ws, h.il, h.nl, h.bl, h.hl⟩
/-- What is said of a circuit. -/
def Ci.e (C : Ci) : Int := cirE C.ins C.ps C.a C.s C.i.ns C.n.ns C.b.ns C.h.ns
theorem noLit_all {e : Int} {l : List Int} (h : l.any (noLit e) = false) : ∀ x ∈ l, 0 ≤ x ∧ x < e := fun x hx => by
  have := List.any_eq_false.1 h x hx
  simp [noLit] at this
  omega
theorem co_of {w : World} {C : Ci} (h : CIn w C) (he : C.e = 0) (last : Nat) (hla : last ≤ 40) : CO w C last := by
  unfold Ci.e cirE at he
  by_cases h1 : chkE C.ins C.ps = 0
  · rw [if_neg (by simpa using h1)] at he
    obtain ⟨i0, i1, pl, st, _⟩ := chk_zero h1
    by_cases h2 : C.a < 0 ∨ C.s < 0 ∨ C.a + C.s ≠ C.ins
    · rw [if_pos h2] at he; cases he
    · rw [if_neg h2] at he
      by_cases h3 : (C.i.ns.length : Int) ≠ C.s ∨ (C.n.ns.length : Int) ≠ C.s
      · rw [if_pos h3] at he; cases he
      · rw [if_neg h3] at he
        by_cases h4 : (C.i.ns.any (badI (2 * (1 + C.ins + C.ps.length))) || C.n.ns.any (noLit (2 * (1 + C.ins + C.ps.length))) || C.b.ns.any (noLit (2 * (1 + C.ins + C.ps.length))) || C.h.ns.any (noLit (2 * (1 + C.ins + C.ps.length)))) = true
        · rw [if_pos h4] at he; cases he
        · simp only [Bool.not_eq_true, Bool.or_eq_false_iff] at h4
          obtain ⟨⟨⟨k1, k2⟩, k3⟩, k4⟩ := h4
          have hf : 1 + C.ins + (C.ps.length : Int) = 1 + C.f := by unfold Ci.f; omega
          rw [hf] at k1 k2 k3 k4
          refine ⟨h.at', i0, i1, by omega, by omega, by omega, by omega, by omega, fun k hk => ?_, fun x hx => ?_, noLit_all k2, noLit_all k3, noLit_all k4, hla, h.bl, h.hl, by omega⟩
          · have := stN_down (k := k + 1) st (by omega)
            rw [stN_succ hk, Bool.and_eq_true] at this
            exact this.2
          · have := List.any_eq_false.1 k1 x hx
            simp [badI, noLit] at this
            omega
  · rw [if_pos (by simpa using h1)] at he
    exact absurd he h1

/-- What New leaves. -/
def NewO (w : World) (C : Ci) (steps : Int) (e : Ending) (w' : World) : Prop :=
  Below w.heap.size w w' ∧ ((C.e ≠ 0 ∧ e = .returned (.tuple #[.pointer none, .int .i64 C.e])) ∨ (C.e = 0 ∧ (steps < 0 ∨ 40 < steps) ∧ e = .returned (.tuple #[.pointer none, .int .i64 3])) ∨
    (C.e = 0 ∧ 0 ≤ steps ∧ steps ≤ 40 ∧ ∃ M, e = .returned (.tuple #[.pointer (some ⟨M, 0, none⟩), .int .i64 0]) ∧ Un w w' M (.slice none 0 0) 0 [] C steps.toNat))
set_option maxHeartbeats 4000000 in
theorem newU_any (C : Ci) (steps : Int) (w : World) (hC : CIn w C) : Calls Tryz.prog 10 #[C.v, .int .i64 steps] w (NewO w C steps) := by
  have hb1 : Below w.heap.size w (w.alloc (.cells #[.int .i64 C.ins, .slice C.p C.ps.length C.cap, .int .i64 C.a, .int .i64 C.s, C.i.v, C.n.v, C.b.v, C.h.v] 27)) := bal (Below.refl _ _) _
  have hC1 := hC.later hb1
  have HCK := hide (checkB_any C.ins C.p C.cap C.ps hC.wf hC.pl C.a C.s hC.wa hC.ws C.i C.n C.b C.h hC.il hC.nl (by have := hC.bl; unfold maxLen; omega) (by have := hC.hl; unfold maxLen; omega) _ hC1.at')
  have HG : Hid ((w.alloc (.cells #[.int .i64 C.ins, .slice C.p C.ps.length C.cap, .int .i64 C.a, .int .i64 C.s, C.i.v, C.n.v, C.b.v, C.h.v] 27)).heap[w.heap.size]? = some (.cells #[.int .i64 C.ins, .slice C.p C.ps.length C.cap, .int .i64 C.a, .int .i64 C.s, C.i.v, C.n.v, C.b.v, C.h.v] 27)) := alloc_at rfl
  have hE : cirE C.ins C.ps C.a C.s C.i.ns C.n.ns C.b.ns C.h.ns = C.e := rfl
  rw [hE] at HCK
  have HB1 := hide hb1
  clear hC hC1 hb1 hE
  simp only [Sl.v] at *
  go_enter Tryz.func10, Tryz.ntmps10
  go_wp2_with fail
  generalize w.alloc (.cells #[.int .i64 C.ins, .slice C.p C.ps.length C.cap, .int .i64 C.a, .int .i64 C.s, .slice C.i.at' C.i.ns.length C.i.cap, .slice C.n.at' C.n.ns.length C.n.cap, .slice C.b.at' C.b.ns.length C.b.cap, .slice C.h.at' C.h.ns.length C.h.cap] 27) = w1 at *
  refine HCK.out.mono ?_
  rintro e w2 ⟨rfl, hb2⟩
  have HB2 := hide (bthen HB1.out hb2)
  have hG2 := (hb2.block _ (Array.getElem?_eq_some_iff.1 HG.out).1).trans HG.out
  have x0 : w2.cell? ⟨w.heap.size, 0, none⟩ = some (.int .i64 C.ins) := by rw [Lib.cell_of_heap hG2]; rfl
  have x1 : w2.cell? ⟨w.heap.size, 1, none⟩ = some (.slice C.p C.ps.length C.cap) := by rw [Lib.cell_of_heap hG2]; rfl
  have x2 : w2.cell? ⟨w.heap.size, 2, none⟩ = some (.int .i64 C.a) := by rw [Lib.cell_of_heap hG2]; rfl
  have x3 : w2.cell? ⟨w.heap.size, 3, none⟩ = some (.int .i64 C.s) := by rw [Lib.cell_of_heap hG2]; rfl
  have x4 : w2.cell? ⟨w.heap.size, 4, none⟩ = some (.slice C.i.at' C.i.ns.length C.i.cap) := by rw [Lib.cell_of_heap hG2]; rfl
  have x5 : w2.cell? ⟨w.heap.size, 5, none⟩ = some (.slice C.n.at' C.n.ns.length C.n.cap) := by rw [Lib.cell_of_heap hG2]; rfl
  have x6 : w2.cell? ⟨w.heap.size, 6, none⟩ = some (.slice C.b.at' C.b.ns.length C.b.cap) := by rw [Lib.cell_of_heap hG2]; rfl
  have x7 : w2.cell? ⟨w.heap.size, 7, none⟩ = some (.slice C.h.at' C.h.ns.length C.h.cap) := by rw [Lib.cell_of_heap hG2]; rfl
  clear hb2 hG2 HCK HG HB1
  by_cases he : C.e = 0
  · have HE0 := hide he
    rw [he]
    by_cases h0 : steps < 0
    · have HEND : Hid (NewO w C steps (.returned (.tuple #[.pointer none, .int .i64 3])) w2) := ⟨HB2.out, Or.inr (Or.inl ⟨he, Or.inl h0, rfl⟩)⟩
      clear he x0 x1 x2 x3 x4 x5 x6 x7
      go_wp2
      go_ret2
      exact HEND.out
    · by_cases h40 : 40 < steps
      · have HEND : Hid (NewO w C steps (.returned (.tuple #[.pointer none, .int .i64 3])) w2) := ⟨HB2.out, Or.inr (Or.inl ⟨he, Or.inr h40, rfl⟩)⟩
        clear he x0 x1 x2 x3 x4 x5 x6 x7
        go_wp2
        go_ret2
        exact HEND.out
      · have HEND : Hid (NewO w C steps (.returned (.tuple #[.pointer (some ⟨w2.heap.size, 0, none⟩), .int .i64 0])) (w2.alloc (.cells #[.int .i64 0, .slice none 0 0, .int .i64 C.ins, .slice C.p C.ps.length C.cap, .int .i64 C.a, .int .i64 C.s, .slice C.i.at' C.i.ns.length C.i.cap, .slice C.n.at' C.n.ns.length C.n.cap, .slice C.b.at' C.b.ns.length C.b.cap, .slice C.h.at' C.h.ns.length C.h.cap, .int .i64 steps] 71))) := by
          have hst : ((steps.toNat : Nat) : Int) = steps := by omega
          refine ⟨bal HB2.out _, Or.inr (Or.inr ⟨he, by omega, by omega, w2.heap.size, rfl, ⟨⟨by simp [go_sem], by simp [go_sem], by simp [go_sem], by simp [go_sem], World.ownsRow_nil _ _ _ _, (fun r hr => by cases hr), HB2.out.size, by simp [Value.ownBlock], (fun r hr => by cases hr)⟩, ⟨by simp [go_sem], by simp [go_sem], by simp [go_sem], by simp [go_sem], by simp [go_sem], by simp [go_sem], by simp [go_sem], by simp [go_sem], by rw [hst]; simp [go_sem]⟩, bal HB2.out _⟩⟩)⟩
        clear he
        go_wp2
        go_ret2
        exact HEND.out
  · have HEND : Hid (NewO w C steps (.returned (.tuple #[.pointer none, .int .i64 C.e])) w2) := ⟨HB2.out, Or.inl ⟨he, rfl⟩⟩
    have heb : (C.e != 0) = true := by simpa using he
    clear he x0 x1 x2 x3 x4 x5 x6 x7
    generalize C.e = E at *
    go_wp2
    go_ret2
    exact HEND.out
end Go.Proofs.YtjhkecnnhddhbaaGreatDoor
