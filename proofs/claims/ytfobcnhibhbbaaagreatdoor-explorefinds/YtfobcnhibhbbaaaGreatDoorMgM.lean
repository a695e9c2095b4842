/- Is one of a list so? -/
import Derived.Test.YtfobcnhibhbbaaaGreatDoorMeM
import Derived.Deep.RegionHeld3
namespace Go.Proofs.YtfobcnhibhbbaaaGreatDoor.Ev
open Go.RowKit
set_option maxRecDepth 100000

/-- The place of the first of which f says yes; -1: there is none. -/
def findE (f : Int → Bool) (l : List Int) : Int := match l.findIdx? f with | some i => (i : Int) | none => -1

theorem findE_ge (f : Int → Bool) (l : List Int) : decide (0 ≤ findE f l) = l.any f := by
  unfold findE
  cases h : l.findIdx? f with
  | none =>
    rw [List.findIdx?_eq_none_iff] at h
    have : l.any f = false := by rw [List.any_eq_false]; intro x hx; simp [h x hx]
    rw [this]; rfl
  | some i =>
    have : l.any f = true := by
      rw [List.any_eq_true]
      rw [List.findIdx?_eq_some_iff_getElem] at h
      obtain ⟨h1, h2, _⟩ := h
      exact ⟨l[i], List.getElem_mem h1, h2⟩
    rw [this]
    simp

theorem findE_hit (f : Int → Bool) (l : List Int) (k : Nat) (hk : k < l.length) (h : ∀ i (hi : i < l.length), i < k → f l[i] = false) (hf : f l[k] = true) : findE f l = k := by
  have : l.findIdx? f = some k := by
    rw [List.findIdx?_eq_some_iff_getElem]
    exact ⟨hk, hf, fun j hj => by simp [h j (by omega) hj]⟩
  unfold findE
  rw [this]

theorem findE_miss (f : Int → Bool) (l : List Int) (h : ∀ i (hi : i < l.length), f l[i] = false) : findE f l = -1 := by
  have : l.findIdx? f = none := by
    rw [List.findIdx?_eq_none_iff]
    intro x hx
    obtain ⟨i, hi, rfl⟩ := List.getElem_of_mem hx
    exact h i hi
  unfold findE
  rw [this]

set_option maxRecDepth 100000 in
set_option maxHeartbeats 2000000 in
theorem indexFunc_any (fn : FuncId) (c : Value) (f : Int → Bool) (l : List Int) (p : Option Addr) (cap : Nat) (w : World) (hl : l.length ≤ maxLen) (hI : IntsAt w p l) (hent : ∀ (args : Array Value) (w : World), (callFunc fn args).run Tryz.prog w = .ok (.enter fn args) w)
    (hcl : ∀ wr, Below w.heap.size w wr → ∀ i (h : i < l.length), Calls Tryz.prog fn #[.int .i64 l[i], c] wr fun e w' => e = .returned (.bool (f l[i])) ∧ Below wr.heap.size wr w') :
    Calls Tryz.prog 66 #[.slice p l.length cap, .func (.func fn) #[] #[c]] w fun e w' => e = .returned (.int .i64 (findE f l)) ∧ Below w.heap.size w w' := by
  have HC : Hid _ := hcl
  unfold maxLen at hl
  clear hcl
  go_enter Tryz.func66, Tryz.ntmps66
  go_wp2
  go_loopw [8] (fun i wr => ∃ k : Nat, k ≤ l.length ∧ i = .int .i64 k ∧ Hid (∀ i (hi : i < l.length), i < k → f l[i] = false) ∧ Below w.heap.size w wr) (fun i _ => l.length - (intOf i).toNat)
  case atStart => exact ⟨0, Nat.zero_le _, rfl, fun i hi h => by omega, Below.refl _ _⟩
  case round =>
    obtain ⟨k, hk, rfl, hno, hbw⟩ := hrel
    by_cases hlt : k < l.length
    · obtain ⟨b, off, rfl, hc⟩ := (hI.later hbw) (by omega)
      have hck := hc k hlt
      have hcall := HC.out wr hbw k hlt
      have HH : Hid _ := findE_hit f l k hlt hno.out
      clear hc
      cases hf : f l[k]
      · have HN : Hid (∀ i (hi : i < l.length), i < k + 1 → f l[i] = false) := by
          intro i hi h
          rcases Nat.lt_succ_iff_lt_or_eq.1 h with h1 | rfl
          · exact hno.out i hi h1
          · exact hf
        rw [hf] at hcall
        have HCC : Hid (Unit → _) := fun _ => hcall
        clear hcall hf hno HH
        generalize l[k] = x at *
        go_wp2_with fail
        refine (HCC.out ()).mono ?_
        rintro e w' ⟨rfl, hb2⟩
        go_wp2
        go_roundw
        case rel => exact ⟨k + 1, by omega, by go_num, HN, bthen hbw hb2⟩
        case measure => simp [intOf]; omega
      · rw [hf] at hcall
        have HCC : Hid (Unit → _) := fun _ => hcall
        have HV : Hid (findE f l = k) := HH.out hf
        clear hcall hf hno HH
        generalize l[k] = x at *
        go_wp2_with fail
        refine (HCC.out ()).mono ?_
        rintro e w' ⟨rfl, hb2⟩
        go_wp2
        go_ret
        exact ⟨ret_int HV.out.symm, bthen hbw hb2⟩
    · have HV : Hid (findE f l = -1) := findE_miss f l (fun i hi => hno.out i hi (by omega))
      go_wp2
      go_ret
      exact ⟨ret_int HV.out.symm, hbw⟩

theorem containsFunc_any (fn : FuncId) (c : Value) (f : Int → Bool) (l : List Int) (p : Option Addr) (cap : Nat) (w : World) (hl : l.length ≤ maxLen) (hI : IntsAt w p l) (hent : ∀ (args : Array Value) (w : World), (callFunc fn args).run Tryz.prog w = .ok (.enter fn args) w)
    (hcl : ∀ wr, Below w.heap.size w wr → ∀ i (h : i < l.length), Calls Tryz.prog fn #[.int .i64 l[i], c] wr fun e w' => e = .returned (.bool (f l[i])) ∧ Below wr.heap.size wr w') :
    Calls Tryz.prog 40 #[.slice p l.length cap, .func (.func fn) #[] #[c]] w fun e w' => e = .returned (.bool (l.any f)) ∧ Below w.heap.size w w' := by
  have HC := fun _ : Unit => indexFunc_any fn c f l p cap w hl hI hent hcl
  have HG : Hid _ := findE_ge f l
  have HCC : Hid _ := HC
  clear HC hcl hent
  generalize findE f l = x at *
  go_enter Tryz.func40, Tryz.ntmps40
  go_wp2_with fail
  refine (HCC.out ()).mono ?_
  rintro e w' ⟨rfl, hb2⟩
  go_wp2
  go_ret
  exact ⟨ret_bool HG.out, hb2⟩

theorem enter79 (args : Array Value) (w : World) : (callFunc 77 args).run Tryz.prog w = .ok (.enter 77 args) w := by kernel_rfl

end Go.Proofs.YtfobcnhibhbbaaaGreatDoor.Ev

namespace Go.Proofs.YtfobcnhibhbbaaaGreatDoor.Ev
open Go.RowKit
set_option maxRecDepth 100000

def opsL (x : Nd) : List Int := [x.a, x.b, x.c].take (takes x.kind).toNat

theorem ints3 {w : World} {g : Nat} {x y z : Int} (t : Nat) (ht : t ≤ 3) (h0 : w.cell? ⟨g, 0, none⟩ = some (.int .i64 x)) (h1 : w.cell? ⟨g, 1, none⟩ = some (.int .i64 y)) (h2 : w.cell? ⟨g, 2, none⟩ = some (.int .i64 z)) :
    IntsAt w (some ⟨g, 0, none⟩) ([x, y, z].take t) := by
  intro _
  refine ⟨g, 0, rfl, fun i hi => ?_⟩
  have : i < 3 := by simp at hi; omega
  rw [List.getElem_take]
  match i, this with
  | 0, _ => simpa using h0
  | 1, _ => simpa using h1
  | 2, _ => simpa using h2

set_option maxRecDepth 100000 in
set_option maxHeartbeats 2000000 in
theorem operands_at (k v x y z n : Int) (t : Nat) (ht : takes k = t) (h4 : t = 0 ∨ t = 1 ∨ t = 2 ∨ t = 3) (w : World) :
    Calls Tryz.prog 76 #[.agg #[.int .i64 k, .int .i64 v, .int .i64 x, .int .i64 y, .int .i64 z, .int .i64 n]] w fun e w' =>
      ∃ g, e = .returned (.slice (some ⟨g, 0, none⟩) t 3) ∧ IntsAt w' (some ⟨g, 0, none⟩) ([x, y, z].take t) ∧ Below w.heap.size w w' := by
  have hw := words_any k
  rw [ht] at hw
  have Hw : Hid _ := hw
  clear hw ht
  rcases h4 with rfl | rfl | rfl | rfl
  all_goals
    go_enter Tryz.func76, Tryz.ntmps76
    go_wp2
    have z0 : (w.alloc (.cells #[.int .i64 k, .int .i64 v, .int .i64 x, .int .i64 y, .int .i64 z, .int .i64 n] 62)).cell? ⟨w.heap.size, 0, none⟩ = some (.int .i64 k) := by simp [go_sem]
    have z2 : (w.alloc (.cells #[.int .i64 k, .int .i64 v, .int .i64 x, .int .i64 y, .int .i64 z, .int .i64 n] 62)).cell? ⟨w.heap.size, 2, none⟩ = some (.int .i64 x) := by simp [go_sem]
    have z3 : (w.alloc (.cells #[.int .i64 k, .int .i64 v, .int .i64 x, .int .i64 y, .int .i64 z, .int .i64 n] 62)).cell? ⟨w.heap.size, 3, none⟩ = some (.int .i64 y) := by simp [go_sem]
    have z4 : (w.alloc (.cells #[.int .i64 k, .int .i64 v, .int .i64 x, .int .i64 y, .int .i64 z, .int .i64 n] 62)).cell? ⟨w.heap.size, 4, none⟩ = some (.int .i64 z) := by simp [go_sem]
    have hbx : Below w.heap.size w (w.alloc (.cells #[.int .i64 k, .int .i64 v, .int .i64 x, .int .i64 y, .int .i64 z, .int .i64 n] 62)) := bal (Below.refl _ _) _
    have hgt : w.heap.size < (w.alloc (.cells #[.int .i64 k, .int .i64 v, .int .i64 x, .int .i64 y, .int .i64 z, .int .i64 n] 62)).heap.size := by simp
    generalize w.alloc (.cells #[.int .i64 k, .int .i64 v, .int .i64 x, .int .i64 y, .int .i64 z, .int .i64 n] 62) = wb at *
    go_region_held3 (fun w' => w'.cell? ⟨w.heap.size, 0, none⟩ = some (.int .i64 k) ∧ w'.cell? ⟨w.heap.size, 2, none⟩ = some (.int .i64 x) ∧ w'.cell? ⟨w.heap.size, 3, none⟩ = some (.int .i64 y) ∧ w'.cell? ⟨w.heap.size, 4, none⟩ = some (.int .i64 z)) (go_keep) ((go_at_call 73; refine (Hw.out _).mono ?_; rintro e w' ⟨rfl, rfl⟩))
    all_goals
      go_wp2
      go_ret
      refine ⟨wb.heap.size, rfl, ints3 _ (by omega) (by simp [go_sem]) (by simp [go_sem]) (by simp [go_sem]), ?_⟩
      exact (bal hbx _).drew


theorem takes_nat (k : Int) : takes k = ((takes k).toNat : Int) ∧ ((takes k).toNat = 0 ∨ (takes k).toNat = 1 ∨ (takes k).toNat = 2 ∨ (takes k).toNat = 3) := by
  have := takes_four k
  omega

theorem opsL_len (x : Nd) : (opsL x).length = (takes x.kind).toNat := by
  unfold opsL
  have := takes_four x.kind
  simp
  omega

theorem operands_any (x : Nd) (w : World) :
    Calls Tryz.prog 76 #[.agg #[.int .i64 x.kind, .int .i64 x.width, .int .i64 x.a, .int .i64 x.b, .int .i64 x.c, .int .i64 x.n]] w fun e w' =>
      ∃ p cap, e = .returned (.slice p (opsL x).length cap) ∧ IntsAt w' p (opsL x) ∧ Below w.heap.size w w' := by
  obtain ⟨h1, h2⟩ := takes_nat x.kind
  refine (operands_at x.kind x.width x.a x.b x.c x.n (takes x.kind).toNat h1 h2 w).mono ?_
  rintro e w' ⟨g, rfl, hI, hb⟩
  exact ⟨some ⟨g, 0, none⟩, 3, by rw [opsL_len], hI, hb⟩

/-- Of each node: is it, or does it lean on, an input or a state? The first k. -/
def hgs (ns : List Nd) : Nat → List Bool
  | 0 => []
  | k + 1 => hgs ns k ++ [match ns[k]? with
    | some x => x.kind == 2 || x.kind == 3 || (opsL x).any (fun y => (hgs ns k).getD y.toNat false)
    | none => false]
theorem hgs_len (ns : List Nd) (k : Nat) : (hgs ns k).length = k := by
  induction k with
  | zero => rfl
  | succ k ih => simp [hgs, ih]
theorem hgs_at (ns : List Nd) (k : Nat) (h : k < ns.length) : hgs ns (k + 1) = hgs ns k ++ [ns[k].kind == 2 || ns[k].kind == 3 || (opsL ns[k]).any (fun y => (hgs ns k).getD y.toNat false)] := by
  show hgs ns k ++ _ = _
  rw [List.getElem?_eq_getElem h]

/-- A row of bools in memory. -/
def BRow (w : World) (g : Nat) (bs : List Bool) : Prop := ∀ (j : Nat) (h : j < bs.length), w.cell? ⟨g, j, none⟩ = some (.bool bs[j]) ∧ w.frozen? ⟨g, j, none⟩ = false

theorem enter79' (args : Array Value) (w : World) : (callFunc 77 args).run Tryz.prog w = .ok (.enter 77 args) w := by kernel_rfl

set_option maxHeartbeats 400000 in
theorem hangs1_any (x : Int) (B g len cap : Nat) (bs : List Bool) (w : World) (hl : bs.length = len) (_hl2 : len ≤ maxLen) (h0 : 0 ≤ x) (h1 : x < len) (hB : w.cell? ⟨B, 0, none⟩ = some (.slice (some ⟨g, 0, none⟩) len cap)) (hR : BRow w g bs) :
    Calls Tryz.prog 77 #[.int .i64 x, .pointer (some ⟨B, 0, none⟩)] w fun e w' => e = .returned (.bool (bs.getD x.toNat false)) ∧ w' = w := by
  have hc := (hR x.toNat (by omega)).1
  have HE : Hid (bs.getD x.toNat false = bs[x.toNat]) := by simp [List.getD, List.getElem?_eq_getElem (show x.toNat < bs.length from by omega), Hid]
  unfold maxLen at _hl2
  generalize bs[x.toNat] = y at *
  clear hR
  go_enter Tryz.func77, Tryz.ntmps77
  go_wp2
  go_ret
  exact ⟨ret_bool HE.out.symm, rfl⟩

end Go.Proofs.YtfobcnhibhbbaaaGreatDoor.Ev
