/- Is one of a list so? -/
import Derived.Test.YtdlfjijfdibocaaGa
namespace Go.Proofs.Ytdlfjijfdibocaa
open Go.RowKit
set_option maxRecDepth 100000

/-- The place of the first of which f says yes; -1: there is none. -/
def findE (f : Int → Bool) (l : List Int) : Int := match l.findIdx? f with | some i => (i : Int) | none => -1

theorem findE_ge (f : Int → Bool) (l : List Int) : decide (0 ≤ findE f l) = l.any f := by
  unfold findE
  cases h : l.findIdx? f with
  | none =>
    rw [List.findIdx?_eq_none_iff] at h
    have : l.any f = false := by rw [List.any_eq_false]; intro x hx; simp [h x hx]
    rw [this]; rfl
  | some i =>
    have : l.any f = true := by
      rw [List.any_eq_true]
      rw [List.findIdx?_eq_some_iff_getElem] at h
      obtain ⟨h1, h2, _⟩ := h
      exact ⟨l[i], List.getElem_mem h1, h2⟩
    rw [this]
    simp

theorem findE_hit (f : Int → Bool) (l : List Int) (k : Nat) (hk : k < l.length) (h : ∀ i (hi : i < l.length), i < k → f l[i] = false) (hf : f l[k] = true) : findE f l = k := by
  have : l.findIdx? f = some k := by
    rw [List.findIdx?_eq_some_iff_getElem]
    exact ⟨hk, hf, fun j hj => by simp [h j (by omega) hj]⟩
  unfold findE
  rw [this]

theorem findE_miss (f : Int → Bool) (l : List Int) (h : ∀ i (hi : i < l.length), f l[i] = false) : findE f l = -1 := by
  have : l.findIdx? f = none := by
    rw [List.findIdx?_eq_none_iff]
    intro x hx
    obtain ⟨i, hi, rfl⟩ := List.getElem_of_mem hx
    exact h i hi
  unfold findE
  rw [this]

set_option maxRecDepth 100000 in
set_option maxHeartbeats 2000000 in
theorem indexFunc_any (fn : FuncId) (c : Value) (f : Int → Bool) (l : List Int) (p : Option Addr) (cap : Nat) (w : World) (hl : l.length ≤ maxLen) (hI : IntsAt w p l) (hent : ∀ (args : Array Value) (w : World), (callFunc fn args).run Try.prog w = .ok (.enter fn args) w)
    (hcl : ∀ wr, Below w.heap.size w wr → ∀ i (h : i < l.length), Calls Try.prog fn #[.int .i64 l[i], c] wr fun e w' => e = .returned (.bool (f l[i])) ∧ Below wr.heap.size wr w') :
    Calls Try.prog 41 #[.slice p l.length cap, .func (.func fn) #[] #[c]] w fun e w' => e = .returned (.int .i64 (findE f l)) ∧ Below w.heap.size w w' := by
  have HC : Hid _ := hcl
  unfold maxLen at hl
  clear hcl
  go_enter Try.func41, Try.ntmps41
  go_wp2
  go_loopw [8] (fun i wr => ∃ k : Nat, k ≤ l.length ∧ i = .int .i64 k ∧ Hid (∀ i (hi : i < l.length), i < k → f l[i] = false) ∧ Below w.heap.size w wr) (fun i _ => l.length - (intOf i).toNat)
  case atStart => exact ⟨0, Nat.zero_le _, rfl, fun i hi h => by omega, Below.refl _ _⟩
  case round =>
    obtain ⟨k, hk, rfl, hno, hbw⟩ := hrel
    by_cases hlt : k < l.length
    · obtain ⟨b, off, rfl, hc⟩ := (hI.later hbw) (by omega)
      have hck := hc k hlt
      have hcall := HC.out wr hbw k hlt
      have HH : Hid _ := findE_hit f l k hlt hno.out
      clear hc
      cases hf : f l[k]
      · have HN : Hid (∀ i (hi : i < l.length), i < k + 1 → f l[i] = false) := by
          intro i hi h
          rcases Nat.lt_succ_iff_lt_or_eq.1 h with h1 | rfl
          · exact hno.out i hi h1
          · exact hf
        rw [hf] at hcall
        have HCC : Hid (Unit → _) := fun _ => hcall
        clear hcall hf hno HH
        generalize l[k] = x at *
        go_wp2_with fail
        refine (HCC.out ()).mono ?_
        rintro e w' ⟨rfl, hb2⟩
        go_wp2
        go_roundw
        case rel => exact ⟨k + 1, by omega, by go_num, HN, bthen hbw hb2⟩
        case measure => simp [intOf]; omega
      · rw [hf] at hcall
        have HCC : Hid (Unit → _) := fun _ => hcall
        have HV : Hid (findE f l = k) := HH.out hf
        clear hcall hf hno HH
        generalize l[k] = x at *
        go_wp2_with fail
        refine (HCC.out ()).mono ?_
        rintro e w' ⟨rfl, hb2⟩
        go_wp2
        go_ret
        exact ⟨ret_int HV.out.symm, bthen hbw hb2⟩
    · have HV : Hid (findE f l = -1) := findE_miss f l (fun i hi => hno.out i hi (by omega))
      go_wp2
      go_ret
      exact ⟨ret_int HV.out.symm, hbw⟩

theorem containsFunc_any (fn : FuncId) (c : Value) (f : Int → Bool) (l : List Int) (p : Option Addr) (cap : Nat) (w : World) (hl : l.length ≤ maxLen) (hI : IntsAt w p l) (hent : ∀ (args : Array Value) (w : World), (callFunc fn args).run Try.prog w = .ok (.enter fn args) w)
    (hcl : ∀ wr, Below w.heap.size w wr → ∀ i (h : i < l.length), Calls Try.prog fn #[.int .i64 l[i], c] wr fun e w' => e = .returned (.bool (f l[i])) ∧ Below wr.heap.size wr w') :
    Calls Try.prog 20 #[.slice p l.length cap, .func (.func fn) #[] #[c]] w fun e w' => e = .returned (.bool (l.any f)) ∧ Below w.heap.size w w' := by
  have HC := fun _ : Unit => indexFunc_any fn c f l p cap w hl hI hent hcl
  have HG : Hid _ := findE_ge f l
  have HCC : Hid _ := HC
  clear HC hcl hent
  generalize findE f l = x at *
  go_enter Try.func20, Try.ntmps20
  go_wp2_with fail
  refine (HCC.out ()).mono ?_
  rintro e w' ⟨rfl, hb2⟩
  go_wp2
  go_ret
  exact ⟨ret_bool HG.out, hb2⟩

theorem enter30 (args : Array Value) (w : World) : (callFunc 45 args).run Try.prog w = .ok (.enter 45 args) w := by kernel_rfl

/-- Is a number no literal? -/
def noLit (e x : Int) : Bool := decide (x < 0) || decide (e ≤ x)

theorem has1_any (x e : Int) (B : Nat) (w : World) (hB : w.cell? ⟨B, 0, none⟩ = some (.int .i64 e)) :
    Calls Try.prog 45 #[.int .i64 x, .pointer (some ⟨B, 0, none⟩)] w fun r w' => r = .returned (.bool (noLit e x)) ∧ Below w.heap.size w w' := by
  have HE : Hid (noLit e x = (decide (x < 0) || decide (e ≤ x))) := rfl
  generalize noLit e x = R at *
  by_cases h : x < 0
  · have HX : Hid (R = true) := by rw [HE.out]; simp [h, Hid]
    go_enter Try.func45, Try.ntmps45
    go_wp2
    go_ret
    exact ⟨ret_bool HX.out.symm, Below.refl _ _⟩
  · have HX : Hid (R = decide (e ≤ x)) := by rw [HE.out]; simp [h, Hid]
    go_enter Try.func45, Try.ntmps45
    go_wp2
    go_ret
    exact ⟨ret_bool HX.out.symm, Below.refl _ _⟩

set_option maxHeartbeats 1000000 in
theorem has_any (ins : Int) (p : Option Addr) (len cap : Nat) (h0 : 0 ≤ ins) (h1 : ins ≤ 1000) (h2 : len ≤ 1000001) (l : List Int) (q : Option Addr) (qc : Nat) (hl : l.length ≤ maxLen) (w : World) (hI : IntsAt w q l) :
    Calls Try.prog 22 #[gval ins p len cap, .slice q l.length qc] w fun r w' => r = .returned (.bool (!l.any (noLit (2 * (1 + ins + len))))) ∧ Below w.heap.size w w' := by
  have hB0 : Below w.heap.size w (w.alloc (.cells #[.int .i64 ins, .slice p len cap] 39)) := bal (Below.refl _ _) _
  have HI := hide hI
  clear hI
  go_enter Try.func22, Try.ntmps22
  go_wp2_with (first | (go_at_call 43; refine (literal_any _ (by omega) (by omega) _).mono ?_; rintro e w' ⟨rfl, rfl⟩) | fail)
  refine (nodes_any _ _ _ _ h0 h1 h2 _).mono ?_
  rintro e w1 ⟨rfl, hb1⟩
  have HB1 := hide (bthen hB0 hb1)
  clear hb1 hB0
  go_wp2_with (first | (go_at_call 43; refine (literal_any _ (by omega) (by omega) _).mono ?_; rintro e w' ⟨rfl, rfl⟩) | fail)
  have hb2 : Below w'.heap.size w' (w'.alloc (.cells #[.int .i64 (2 * (1 + ins + ↑len))] 3)) := bal (Below.refl _ _) _
  refine (containsFunc_any 45 _ (noLit (2 * (1 + ins + ↑len))) l q qc _ hl ((HI.out.later HB1.out).later hb2) enter30 fun wr hb i hi => has1_any _ _ _ _ (cell_later hb (by simp [go_sem]))).mono ?_
  rintro e w2 ⟨rfl, hb3⟩
  have HB2 := hide (bthen (bthen HB1.out hb2) hb3)
  clear HB1 hb2 hb3
  go_wp2
  go_ret
  exact ⟨rfl, HB2.out⟩

end Go.Proofs.Ytdlfjijfdibocaa
